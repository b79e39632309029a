/- The lengths that a block tells, as the document reads them. -/
import Derived.Test.YtjilhneefbakhaaDoorRefZ
namespace Go.Proofs.YtjilhneefbakhaaDoor.Inf
open Go.RowKit Go.Proofs.YtjilhneefbakhaaDoor.Sha

/-- The told lengths, whatever they make up. -/
def ownQ (s : ByteArray) (pos : Nat) : Option (List Nat × List Nat × Nat) :=
  if pos + 14 ≤ 8 * s.size ∧ pos + 14 + 3 * (4 + bitsVal s (pos + 10) 4) ≤ 8 * s.size ∧ bitsVal s pos 5 ≤ 29 ∧ bitsVal s (pos + 5) 5 ≤ 29 ∧ full (clens s (pos + 14) (4 + bitsVal s (pos + 10) 4)) then
    match lenG (clens s (pos + 14) (4 + bitsVal s (pos + 10) 4)) s (258 + bitsVal s pos 5 + bitsVal s (pos + 5) 5) (258 + bitsVal s pos 5 + bitsVal s (pos + 5) 5) [] (pos + 14 + 3 * (4 + bitsVal s (pos + 10) 4)) with
    | none => none
    | some (l, p) => if l.getD 256 0 ≠ 0 then some (l.take (257 + bitsVal s pos 5), l.drop (257 + bitsVal s pos 5), p) else none
  else none
theorem ownP_of (s : ByteArray) (pos : Nat) : ownP s pos = (match ownQ s pos with
    | none => none
    | some (near, far, p) => if full near ∧ (full far ∨ loneP far) then some (near, far, p) else none) := by
  unfold ownP ownQ
  by_cases hc : pos + 14 ≤ 8 * s.size ∧ pos + 14 + 3 * (4 + bitsVal s (pos + 10) 4) ≤ 8 * s.size ∧ bitsVal s pos 5 ≤ 29 ∧ bitsVal s (pos + 5) 5 ≤ 29 ∧ full (clens s (pos + 14) (4 + bitsVal s (pos + 10) 4))
  · rw [if_pos hc, if_pos hc]
    cases lenG (clens s (pos + 14) (4 + bitsVal s (pos + 10) 4)) s (258 + bitsVal s pos 5 + bitsVal s (pos + 5) 5) (258 + bitsVal s pos 5 + bitsVal s (pos + 5) 5) [] (pos + 14 + 3 * (4 + bitsVal s (pos + 10) 4)) with
    | none => rfl
    | some r =>
      obtain ⟨l, p⟩ := r
      dsimp only
      by_cases h : l.getD 256 0 ≠ 0
      · rw [if_pos h]
        by_cases h2 : full (l.take (257 + bitsVal s pos 5)) ∧ (full (l.drop (257 + bitsVal s pos 5)) ∨ loneP (l.drop (257 + bitsVal s pos 5)))
        · rw [if_pos ⟨h, h2⟩]; dsimp only; rw [if_pos h2]
        · rw [if_neg (fun hc => h2 hc.2)]; dsimp only; rw [if_neg h2]
      · rw [if_neg h, if_neg (fun hc => h hc.1)]
  · rw [if_neg hc, if_neg hc]
theorem blk_made (w : World) (T : Nat) (t : TypeId) : Blk (w.alloc (.cells (madeCells #[.int .i64 0] T) t)) w.heap.size (List.replicate T 0) := by
  refine ⟨fun j x hj => ?_, fun j _ => by simp⟩
  have hj' : j < T := by have := (List.getElem?_eq_some_iff.1 hj).1; simpa using this
  rw [List.getElem?_replicate, if_pos hj'] at hj
  injection hj with hj
  subst hj
  rw [World.cell?_alloc_at _ _ _ _ rfl]
  exact made_get T j hj'
theorem ownQ_inv {s : ByteArray} {pos : Nat} (h : ownQ s pos ≠ none) : pos + 14 ≤ 8 * s.size ∧ pos + 14 + 3 * (4 + bitsVal s (pos + 10) 4) ≤ 8 * s.size ∧ bitsVal s pos 5 ≤ 29 ∧ bitsVal s (pos + 5) 5 ≤ 29 ∧ full (clens s (pos + 14) (4 + bitsVal s (pos + 10) 4)) ∧
    ∃ l p, lenG (clens s (pos + 14) (4 + bitsVal s (pos + 10) 4)) s (258 + bitsVal s pos 5 + bitsVal s (pos + 5) 5) (258 + bitsVal s pos 5 + bitsVal s (pos + 5) 5) [] (pos + 14 + 3 * (4 + bitsVal s (pos + 10) 4)) = some (l, p) ∧ l.getD 256 0 ≠ 0 := by
  unfold ownQ at h
  split at h
  · rename_i hc
    refine ⟨hc.1, hc.2.1, hc.2.2.1, hc.2.2.2.1, hc.2.2.2.2, ?_⟩
    split at h
    · exact absurd rfl h
    · rename_i l p hl
      split at h
      · rename_i hd
        exact ⟨l, p, hl, hd⟩
      · exact absurd rfl h
  · exact absurd rfl h
theorem ownQ_yes {s : ByteArray} {pos : Nat} {l : List Nat} {p : Nat} (h1 : pos + 14 ≤ 8 * s.size) (h2 : pos + 14 + 3 * (4 + bitsVal s (pos + 10) 4) ≤ 8 * s.size) (h3 : bitsVal s pos 5 ≤ 29) (h4 : bitsVal s (pos + 5) 5 ≤ 29) (h5 : full (clens s (pos + 14) (4 + bitsVal s (pos + 10) 4)))
    (h6 : lenG (clens s (pos + 14) (4 + bitsVal s (pos + 10) 4)) s (258 + bitsVal s pos 5 + bitsVal s (pos + 5) 5) (258 + bitsVal s pos 5 + bitsVal s (pos + 5) 5) [] (pos + 14 + 3 * (4 + bitsVal s (pos + 10) 4)) = some (l, p)) (h7 : l.getD 256 0 ≠ 0) :
    ownQ s pos = some (l.take (257 + bitsVal s pos 5), l.drop (257 + bitsVal s pos 5), p) := by
  unfold ownQ
  rw [if_pos ⟨h1, h2, h3, h4, h5⟩, h6]
  dsimp only
  rw [if_pos h7]
/-- Lengths in a slice, away from the text. -/
def LenSl (tb : Nat) (w : World) (v : Value) (lens : List Nat) : Prop := ∃ g o cap, v = .slice (some ⟨g, o, none⟩) lens.length cap ∧ LensAt w g o lens ∧ Apart tb w g
def sliceLen : Value → Nat
  | .slice _ n _ => n
  | _ => 0
section
variable {tb base : Nat} {s : ByteArray} {pos : Nat} {out : List UInt8} {most : Nat} {bad : Bool} {w wr w2 : World} {v : Value} {l : List Nat}
theorem LenW.moreT (h : LenW tb base w v l wr) (hM : TA tb base s pos out most bad wr) (hbl : base ≤ w.heap.size) {o : Obj} {g' T cap' : Nat} {x : Nat} (ho : OwnL nv w2 w.heap.size (.slice (some ⟨g', 0, none⟩) T cap') (l ++ [x])) (hb : Below w.heap.size (wr.alloc o) w2) (ha : Apt (wr.alloc o) w2 v (.slice (some ⟨g', 0, none⟩) T cap')) :
    LenW tb base w (.slice (some ⟨g', 0, none⟩) T cap') (l ++ [x]) w2 ∧ TA tb base s pos out most bad w2 := by
  have ha := apt_alloc ha
  have hsz : wr.heap.size ≤ w2.heap.size := Nat.le_trans (by simp) hb.size
  have hws := h.kept.size
  have hB : Below w.heap.size wr w2 := ((below_one wr o).mono hws).trans hb
  have hlb := hM.lt
  have hc : w2.cell? ⟨tb, 3, none⟩ = wr.cell? ⟨tb, 3, none⟩ := hB.cell (p := ⟨tb, 3, none⟩) (show tb < w.heap.size by omega)
  refine ⟨⟨ho, fun g n c hv => ?_, h.kept.below hB hlb hbl⟩, hM.away hsz fun k hk => ?_⟩
  · cases hv
    rcases Nat.lt_or_ge g' wr.heap.size with h1 | h1
    · obtain ⟨n2, c2, hv2⟩ := ha.2 g' _ _ rfl h1
      exact (h.ap g' n2 c2 hv2).same hsz hc
    · refine ⟨?_, ?_, fun ⟨i, n, c, h2⟩ => ?_⟩
      · rcases ho with ⟨q, _⟩ | ⟨g, cap, q1, _, q3, _⟩
        · cases q
        · cases q1; exact q3
      · have := hM.bl; omega
      · rw [hc] at h2
        have := (hM.outlt ⟨i, n, c, h2⟩).1
        omega
  · have hkl : k < wr.heap.size := by
      rcases hk with rfl | hk
      · have := hM.bl; omega
      · exact (hM.outlt hk).1
    refine ha.1 k hkl fun n c hv => ?_
    have hap := h.ap k n c hv
    rcases hk with hk | hk
    · exact hap.2.1 hk
    · exact hap.2.2 hk
/-- What coded makes is away from the text. -/
theorem CodL.of_own {lens : List Nat} (h : TA tb base s pos out most bad w) (hb : Below w.heap.size w w2) (ho : OwnK 3 w2 w.heap.size v (off lens 15) (cells3 (codesN lens 15))) : CodL tb w2 v lens := by
  rw [← codesN_len] at ho
  obtain ⟨_, ho⟩ := ho
  rcases ho with ⟨hv, hn⟩ | ⟨g, cap, hv, hg, hgl, _, hc, _⟩
  · refine ⟨none, 0, by rw [hv, hn], fun i c hi => ?_⟩
    have := (List.getElem?_eq_some_iff.1 hi).1
    omega
  · refine ⟨some ⟨g, 0, none⟩, cap, hv, fun i c hi => ?_⟩
    obtain ⟨q1, q2, q3⟩ := cells3_get _ i c hi
    exact ⟨g, rfl, h.fresh hb hg hgl, hc _ _ q1, hc _ _ q2, hc _ _ q3⟩
theorem CodL.step {lens : List Nat} (h : CodL tb w v lens) (hb : Below w.heap.size w w2) (hl : tb < w.heap.size) : CodL tb w2 v lens := by
  obtain ⟨ao, cap, hv, h⟩ := h
  refine ⟨ao, cap, hv, fun i c hi => ?_⟩
  obtain ⟨g, h1, h2, h3, h4, h5⟩ := h i c hi
  have e1 := hb.block g h2.1
  refine ⟨g, h1, h2.same hb.size (hb.cell (p := ⟨tb, 3, none⟩) hl), ?_, ?_, ?_⟩
  · rw [World.cell?_of_block (a := ⟨g, 3 * i, none⟩) (w := w) e1]; exact h3
  · rw [World.cell?_of_block (a := ⟨g, 3 * i + 1, none⟩) (w := w) e1]; exact h4
  · rw [World.cell?_of_block (a := ⟨g, 3 * i + 2, none⟩) (w := w) e1]; exact h5
end
/-- What lies in memory while the code for lengths is read: the places, and the lengths. -/
structure FoR (tb base ba bl : Nat) (w : World) (ls : List Nat) (wr : World) : Prop where
  blk : Blk wr bl ls
  at' : ∀ j x, ordL[j]? = some x → wr.cell? ⟨ba, j, none⟩ = some (.int .i64 ((x : Nat) : Int))
  a0 : Apart tb wr ba
  a1 : Apart tb wr bl
  ne : ba ≠ bl
  lo : w.heap.size ≤ bl
  kept : Kept tb base w wr
section
variable {tb base ba bl : Nat} {s : ByteArray} {pos : Nat} {out : List UInt8} {most : Nat} {bad : Bool} {w wr w2 : World} {ls : List Nat}
theorem FoR.next (h : FoR tb base ba bl w ls wr) (k : Kept tb base wr w2) : FoR tb base ba bl w ls w2 :=
  ⟨h.blk.kept k h.a1, fun j x hj => by rw [World.cell?_of_block (a := ⟨ba, j, none⟩) (w := wr) (k.apart h.a0).2]; exact h.at' j x hj, (k.apart h.a0).1, (k.apart h.a1).1, h.ne, h.lo, h.kept.trans k⟩
theorem FoR.put (h : FoR tb base ba bl w ls wr) (hlb : tb < base) (hbl : base ≤ w.heap.size) (i y : Nat) (hi : i < ls.length) : FoR tb base ba bl w (ls.set i y) (wr.setCell ⟨bl, i, none⟩ (.int .i64 (y : Int))) := by
  have hlo := h.lo
  have hc : (wr.setCell ⟨bl, i, none⟩ (.int .i64 (y : Int))).cell? ⟨tb, 3, none⟩ = wr.cell? ⟨tb, 3, none⟩ := World.cell?_setCell_other _ _ _ _ (by intro e; injection e with e1; omega)
  exact ⟨h.blk.set i y hi, fun j x hj => by rw [World.cell?_setCell_other _ _ _ _ (by intro e; injection e with e1; exact h.ne e1.symm)]; exact h.at' j x hj, h.a0.same (by simp) hc, h.a1.same (by simp) hc, h.ne, h.lo, h.kept.below ((Below.refl _ _).setCell (p := ⟨bl, i, none⟩) hlo _) hlb hbl⟩
theorem FoR.start (h : TA tb base s pos out most bad wr) (k : Kept tb base w wr) (hbl : base ≤ w.heap.size) (t t2 : TypeId) : TA tb base s pos out most bad ((wr.alloc (.cells #[.int .i64 16, .int .i64 17, .int .i64 18, .int .i64 0, .int .i64 8, .int .i64 7, .int .i64 9, .int .i64 6, .int .i64 10, .int .i64 5, .int .i64 11, .int .i64 4, .int .i64 12, .int .i64 3, .int .i64 13, .int .i64 2, .int .i64 14, .int .i64 1, .int .i64 15] t)).alloc (.cells (madeCells #[.int .i64 0] 19) t2)) ∧ FoR tb base wr.heap.size (wr.heap.size + 1) w (List.replicate 19 0) ((wr.alloc (.cells #[.int .i64 16, .int .i64 17, .int .i64 18, .int .i64 0, .int .i64 8, .int .i64 7, .int .i64 9, .int .i64 6, .int .i64 10, .int .i64 5, .int .i64 11, .int .i64 4, .int .i64 12, .int .i64 3, .int .i64 13, .int .i64 2, .int .i64 14, .int .i64 1, .int .i64 15] t)).alloc (.cells (madeCells #[.int .i64 0] 19) t2)) := by
  have hB : Below wr.heap.size wr ((wr.alloc (.cells #[.int .i64 16, .int .i64 17, .int .i64 18, .int .i64 0, .int .i64 8, .int .i64 7, .int .i64 9, .int .i64 6, .int .i64 10, .int .i64 5, .int .i64 11, .int .i64 4, .int .i64 12, .int .i64 3, .int .i64 13, .int .i64 2, .int .i64 14, .int .i64 1, .int .i64 15] t)).alloc (.cells (madeCells #[.int .i64 0] 19) t2)) := (below_one wr _).trans ((below_one _ _).mono (by simp))
  have hs : (wr.alloc (.cells #[.int .i64 16, .int .i64 17, .int .i64 18, .int .i64 0, .int .i64 8, .int .i64 7, .int .i64 9, .int .i64 6, .int .i64 10, .int .i64 5, .int .i64 11, .int .i64 4, .int .i64 12, .int .i64 3, .int .i64 13, .int .i64 2, .int .i64 14, .int .i64 1, .int .i64 15] t)).heap.size = wr.heap.size + 1 := by simp
  have hs2 : ((wr.alloc (.cells #[.int .i64 16, .int .i64 17, .int .i64 18, .int .i64 0, .int .i64 8, .int .i64 7, .int .i64 9, .int .i64 6, .int .i64 10, .int .i64 5, .int .i64 11, .int .i64 4, .int .i64 12, .int .i64 3, .int .i64 13, .int .i64 2, .int .i64 14, .int .i64 1, .int .i64 15] t)).alloc (.cells (madeCells #[.int .i64 0] 19) t2)).heap.size = wr.heap.size + 2 := by simp
  have hks := k.size
  refine ⟨h.grow hB, ?_, fun j x hj => ?_, h.fresh hB (Nat.le_refl _) (by omega), h.fresh hB (by omega) (by omega), by omega, by omega, k.below (hB.mono hks) h.lt hbl⟩
  · have := blk_made (wr.alloc (.cells #[.int .i64 16, .int .i64 17, .int .i64 18, .int .i64 0, .int .i64 8, .int .i64 7, .int .i64 9, .int .i64 6, .int .i64 10, .int .i64 5, .int .i64 11, .int .i64 4, .int .i64 12, .int .i64 3, .int .i64 13, .int .i64 2, .int .i64 14, .int .i64 1, .int .i64 15] t)) 19 t2
    rw [hs] at this; exact this
  · have hb := below_one (wr.alloc (.cells #[.int .i64 16, .int .i64 17, .int .i64 18, .int .i64 0, .int .i64 8, .int .i64 7, .int .i64 9, .int .i64 6, .int .i64 10, .int .i64 5, .int .i64 11, .int .i64 4, .int .i64 12, .int .i64 3, .int .i64 13, .int .i64 2, .int .i64 14, .int .i64 1, .int .i64 15] t)) (.cells (madeCells #[.int .i64 0] 19) t2)
    rw [hb.cell (p := ⟨wr.heap.size, j, none⟩) (by rw [hs]; exact Nat.lt_succ_self _), World.cell?_alloc_at _ _ _ _ rfl]
    show (#[.int .i64 16, .int .i64 17, .int .i64 18, .int .i64 0, .int .i64 8, .int .i64 7, .int .i64 9, .int .i64 6, .int .i64 10, .int .i64 5, .int .i64 11, .int .i64 4, .int .i64 12, .int .i64 3, .int .i64 13, .int .i64 2, .int .i64 14, .int .i64 1, .int .i64 15] : Array Value)[j]? = _
    rw [show (#[.int .i64 16, .int .i64 17, .int .i64 18, .int .i64 0, .int .i64 8, .int .i64 7, .int .i64 9, .int .i64 6, .int .i64 10, .int .i64 5, .int .i64 11, .int .i64 4, .int .i64 12, .int .i64 3, .int .i64 13, .int .i64 2, .int .i64 14, .int .i64 1, .int .i64 15] : Array Value) = (ordL.map fun x => Value.int .i64 ((x : Nat) : Int)).toArray from rfl, List.getElem?_toArray, List.getElem?_map, hj]; rfl
end
section
variable {tb base : Nat} {s : ByteArray} {pos : Nat} {out : List UInt8} {most : Nat} {w : World}
/-- What the document's ownCodes leaves. -/
def OwnR (tb base : Nat) (s : ByteArray) (out : List UInt8) (most : Nat) (Q : Option (List Nat × List Nat × Nat)) (w : World) (e : Ending) (w' : World) : Prop :=
  ∃ (r : Bool) (v1 v2 : Value) (p : Nat) (bd : Bool), e = .returned (.tuple #[v1, v2, .bool r]) ∧ p ≤ 8 * s.size ∧ TA tb base s p out most bd w' ∧ Kept tb base w w' ∧ (r = true → bd = false ∧ ∃ near far, Q = some (near, far, p) ∧ LenSl tb w' v1 near ∧ LenSl tb w' v2 far ∧ 0 < near.length ∧ 0 < far.length ∧ near.length ≤ 1000 ∧ far.length ≤ 1000) ∧ (r = false → Q = none)
set_option maxRecDepth 100000 in
set_option maxHeartbeats 4000000 in
theorem ownR_walk (h : TA tb base s pos out most false w) (hs : s.size ≤ 140737488355328) (hp : pos ≤ 8 * s.size) :
    Calls Tryd.prog 25 #[.pointer (some ⟨tb, 0, none⟩)] w fun e w' => OwnR tb base s out most (ownQ s pos) w e w' := by
  have hlb : tb < base := h.lt
  have hbl : base ≤ w.heap.size := h.bl
  obtain ⟨Q, HQ⟩ : ∃ Q, Hid (ownQ s pos = Q) := ⟨_, rfl⟩
  rw [HQ.out]
  obtain ⟨i0, hi, hz0, hz1, hz2⟩ := info_parts intInfo
  have hmk : ∀ W : World, (Instr.makeSlice 29 (.int .i64 19) (.int .i64 19)).run Tryd.prog W = .ok (.slice (some ⟨W.heap.size, 0, none⟩) 19 19) (W.alloc (.cells (madeCells #[.int .i64 0] 19) 3)) := by
    intro W
    have := run_make (P := Tryd.prog) W 29 3 i0 (.int .i64 0) Tryd.underlying29 hi hz0 .i64 .i64 19 19 (by omega) (by omega) (by rw [hz2]; omega) (by omega)
    rw [this, hz1]; rfl
  go_enter Tryd.func25, Tryd.ntmps25
  go_wp2_with fail
  refine (many_any 5 h hs hp (by decide)).mono ?_
  rintro e w1 ⟨v1, p1, bd1, rfl, hv1, hp1, hM1, k1, f1, g1⟩
  have hv1' : v1 < 32 := hv1
  obtain ⟨n1, HN1⟩ : ∃ n1 : Nat, Hid (257 + v1 = n1) := ⟨_, rfl⟩
  have hn1 : (v1 : Int) + 257 = (n1 : Int) := by have := HN1.out; omega
  go_wp2_with fail
  refine (many_any 5 hM1 hs hp1 (by decide)).mono ?_
  rintro e w2 ⟨v2, p2, bd2, rfl, hv2, hp2, hM2, k2, f2, g2⟩
  have hv2' : v2 < 32 := hv2
  obtain ⟨n2, HN2⟩ : ∃ n2 : Nat, Hid (1 + v2 = n2) := ⟨_, rfl⟩
  have hn2 : (v2 : Int) + 1 = (n2 : Int) := by have := HN2.out; omega
  go_wp2_with fail
  refine (many_any 4 hM2 hs hp2 (by decide)).mono ?_
  rintro e w3 ⟨v3, p3, bd3, rfl, hv3, hp3, hM3, k3, f3, g3⟩
  have hv3' : v3 < 16 := hv3
  obtain ⟨F, HF⟩ : ∃ F : Nat, Hid (4 + v3 = F) := ⟨_, rfl⟩
  have hF3 : (v3 : Int) + 4 = (F : Int) := by have := HF.out; omega
  have hF19 : F ≤ 19 := by have := HF.out; omega
  have hK3 := (k1.trans k2).trans k3
  have HP3 : Hid ((bd3 = false → pos + 14 ≤ 8 * s.size ∧ p3 = pos + 14 ∧ v1 = bitsVal s pos 5 ∧ v2 = bitsVal s (pos + 5) 5 ∧ v3 = bitsVal s (pos + 10) 4) ∧ (pos + 14 ≤ 8 * s.size → bd3 = false)) := by
    refine ⟨fun hb => ?_, fun hl => ?_⟩
    · obtain ⟨b2, i2, i3, i4⟩ := f3 hb
      obtain ⟨b1, j2, j3, j4⟩ := f2 b2
      obtain ⟨_, q2, q3, q4⟩ := f1 b1
      subst q3; subst j3
      exact ⟨by omega, by omega, q4, j4, by rw [i4]⟩
    · have b1 := g1 (by first | rfl | trivial) (by omega)
      have e1 := (f1 b1).2.2.1
      have b2 := g2 b1 (by omega)
      have e2 := (f2 b2).2.2.1
      exact g3 b2 (by omega)
  clear h hM1 hM2 k1 k2 k3 f1 g1 f2 g2 f3 g3
  have HS4 : Hid (∀ t t2, TA tb base s p3 out most bd3 ((w3.alloc (.cells #[.int .i64 16, .int .i64 17, .int .i64 18, .int .i64 0, .int .i64 8, .int .i64 7, .int .i64 9, .int .i64 6, .int .i64 10, .int .i64 5, .int .i64 11, .int .i64 4, .int .i64 12, .int .i64 3, .int .i64 13, .int .i64 2, .int .i64 14, .int .i64 1, .int .i64 15] t)).alloc (.cells (madeCells #[.int .i64 0] 19) t2)) ∧ FoR tb base w3.heap.size (w3.heap.size + 1) w (List.replicate 19 0) ((w3.alloc (.cells #[.int .i64 16, .int .i64 17, .int .i64 18, .int .i64 0, .int .i64 8, .int .i64 7, .int .i64 9, .int .i64 6, .int .i64 10, .int .i64 5, .int .i64 11, .int .i64 4, .int .i64 12, .int .i64 3, .int .i64 13, .int .i64 2, .int .i64 14, .int .i64 1, .int .i64 15] t)).alloc (.cells (madeCells #[.int .i64 0] 19) t2))) := fun t t2 => FoR.start hM3 hK3 hbl t t2
  have hmk1 := hmk (w3.alloc (.cells #[.int .i64 16, .int .i64 17, .int .i64 18, .int .i64 0, .int .i64 8, .int .i64 7, .int .i64 9, .int .i64 6, .int .i64 10, .int .i64 5, .int .i64 11, .int .i64 4, .int .i64 12, .int .i64 3, .int .i64 13, .int .i64 2, .int .i64 14, .int .i64 1, .int .i64 15] 3))
  rw [show (w3.alloc (.cells #[.int .i64 16, .int .i64 17, .int .i64 18, .int .i64 0, .int .i64 8, .int .i64 7, .int .i64 9, .int .i64 6, .int .i64 10, .int .i64 5, .int .i64 11, .int .i64 4, .int .i64 12, .int .i64 3, .int .i64 13, .int .i64 2, .int .i64 14, .int .i64 1, .int .i64 15] 3)).heap.size = w3.heap.size + 1 by simp] at hmk1
  clear hmk hM3 hK3
  go_wp2
  go_loopw [10, 11] (fun i _ wr => ∃ (k p : Nat) (bd : Bool) (ls : List Nat), k ≤ F ∧ i = .int .i64 (k : Int) ∧ TA tb base s p out most bd wr ∧ FoR tb base w3.heap.size (w3.heap.size + 1) w ls wr ∧ Hid (p ≤ 8 * s.size ∧ ls.length = 19 ∧ (bd = false → bd3 = false ∧ p = pos + 14 + 3 * k ∧ pos + 14 + 3 * k ≤ 8 * s.size ∧ ls = clens s (pos + 14) k) ∧ (pos + 14 + 3 * k ≤ 8 * s.size → bd = false))) (fun i _ _ => F - (intOf i).toNat)
  case atStart => exact ⟨0, p3, bd3, List.replicate 19 0, by omega, rfl, (HS4.out _ _).1, (HS4.out _ _).2, ⟨hp3, rfl, fun hb => ⟨hb, by have := (HP3.out.1 hb).2.1; omega, by have := (HP3.out.1 hb).1; omega, rfl⟩, fun hl => HP3.out.2 (by omega)⟩⟩
  case round =>
    clear HS4 hmk1
    obtain ⟨k, p, bd, ls, hk, rfl, hM, hFo, HI⟩ := hrel
    by_cases hlt : k < F
    · have hlt' : (k : Int) < (F : Int) := by omega
      obtain ⟨o, HO⟩ : ∃ o, Hid (ordL[k]? = some o ∧ ordL.getD k 0 = o ∧ o < 19) := ordL_get k (by omega)
      have hk19 : (k : Int) < 19 := by omega
      have ho19 : (o : Int) < 19 := by have := HO.out.2.2; omega
      go_wp2_with fail
      refine (many_any 3 hM hs HI.out.1 (by decide)).mono ?_
      rintro e w4 ⟨v4, p4, bd4, rfl, hv4, hp4, hM4, k4, f4, g4⟩
      have hFo4 := hFo.next k4
      have hco := hFo4.at' k o HO.out.1
      have hol : o < ls.length := by rw [HI.out.2.1]; exact HO.out.2.2
      obtain ⟨y0, hy0⟩ : ∃ y0, ls[o]? = some y0 := ⟨_, List.getElem?_eq_getElem hol⟩
      obtain ⟨c4, fr4⟩ := hFo4.blk.at o y0 hy0
      have hM5 := hM4.set hFo4.a1 o (.int .i64 (v4 : Int))
      have hFo5 := hFo4.put hlb hbl o v4 hol
      have HI5 : Hid (p4 ≤ 8 * s.size ∧ (ls.set o v4).length = 19 ∧ (bd4 = false → bd3 = false ∧ p4 = pos + 14 + 3 * (k + 1) ∧ pos + 14 + 3 * (k + 1) ≤ 8 * s.size ∧ ls.set o v4 = clens s (pos + 14) (k + 1)) ∧ (pos + 14 + 3 * (k + 1) ≤ 8 * s.size → bd4 = false)) := by
        obtain ⟨j1, j2, j3, j4⟩ := HI.out
        refine ⟨hp4, by rw [List.length_set]; exact j2, fun hb => ?_, fun hl => ?_⟩
        · obtain ⟨i1, i2, i3, i4⟩ := f4 hb
          obtain ⟨q1, q2, q3, q4⟩ := j3 i1
          refine ⟨q1, by omega, by omega, ?_⟩
          rw [clens, HO.out.2.1, ← q4, i4, q2]
        · have hbd := j4 (by omega)
          have := (j3 hbd).2.1
          exact g4 hbd (by omega)
      clear hM hFo hM4 hFo4 k4 f4 g4 hy0 HI
      go_wp2
      go_roundw
      case rel => exact ⟨k + 1, p4, bd4, ls.set o v4, by omega, by go_num, hM5, hFo5, HI5⟩
      case measure => simp [intOf]; omega
    · have hlt' : ¬ (k : Int) < (F : Int) := by omega
      have hkF : k = F := by omega
      subst hkF
      go_wp2_with fail
      refine (coded_n (lb := w3.heap.size + 1) (lo := 0) (lens := ls) 19 HI.out.2.1.symm (fun j x hj => by rw [Nat.zero_add]; exact hFo.blk.cell j x hj) (by rw [HI.out.2.1]; decide) (by rw [HI.out.2.1]; decide)).mono ?_
      rintro e w4 ⟨vC, rfl, hB4, hOC⟩
      have hC4 := CodL.of_own hM hB4 hOC
      have hM4 : TA tb base s p out most bd w4 := hM.grow hB4
      have hK4 : Kept tb base w w4 := hFo.kept.below (hB4.mono hFo.kept.size) hlb hbl
      have hbl4 : base ≤ w4.heap.size := hM4.bl
      obtain ⟨SS, HSS⟩ : ∃ SS, Hid (sumN ls 15 = SS) := ⟨_, rfl⟩
      have hSS : SS ≤ 15 * (19 * 32768) := by rw [← HSS.out]; have := sumN_le ls 15; rw [HI.out.2.1] at this; exact this
      rw [HSS.out]
      have c2 := hM4.c2
      have hp4 := HI.out.1
      have hls : ls.length = 19 := HI.out.2.1
      obtain ⟨N, HNN⟩ : ∃ N : Nat, Hid (n1 + n2 = N) := ⟨_, rfl⟩
      have hn3 : (n1 : Int) + (n2 : Int) = (N : Int) := by have := HNN.out; omega
      have HE : Hid (bd = false → pos + 14 ≤ 8 * s.size ∧ pos + 14 + 3 * (4 + bitsVal s (pos + 10) 4) ≤ 8 * s.size ∧ v1 = bitsVal s pos 5 ∧ v2 = bitsVal s (pos + 5) 5 ∧ ls = clens s (pos + 14) (4 + bitsVal s (pos + 10) 4) ∧ p = pos + 14 + 3 * (4 + bitsVal s (pos + 10) 4)) := fun hb => by
        obtain ⟨j1, j2, j3, j4⟩ := HI.out.2.2.1 hb
        obtain ⟨q1, q2, q3, q4, q5⟩ := HP3.out.1 j1
        have e : k = 4 + bitsVal s (pos + 10) 4 := by rw [← HF.out, q5]
        rw [e] at j2 j3 j4
        exact ⟨q1, j3, q3, q4, j4, j2⟩
      have HE2 : Hid (Q ≠ none → bd = false ∧ v1 ≤ 29 ∧ v2 ≤ 29 ∧ SS = 32768 ∧ ∃ l q, lenG ls s N N [] p = some (l, q) ∧ l.getD 256 0 ≠ 0) := fun hn => by
        obtain ⟨i1, i2, i3, i4, i5, l, q, i6, i7⟩ := ownQ_inv (by rw [HQ.out]; exact hn)
        have b3 := HP3.out.2 i1
        obtain ⟨q1, q2, q3, q4, q5⟩ := HP3.out.1 b3
        have e : k = 4 + bitsVal s (pos + 10) 4 := by rw [← HF.out, q5]
        have hb : bd = false := HI.out.2.2.2 (by rw [e]; exact i2)
        obtain ⟨_, _, _, _, r5, r6⟩ := HE.out hb
        refine ⟨hb, by rw [q3]; exact i3, by rw [q4]; exact i4, ?_, l, q, ?_, i7⟩
        · rw [← HSS.out, r5]; exact i5
        · have eN : N = 258 + bitsVal s pos 5 + bitsVal s (pos + 5) 5 := by have := HNN.out; have := HN1.out; have := HN2.out; omega
          rw [r5, r6, eN]; exact i6
      clear hM hFo hB4 hOC HI
      cases bd with
      | true =>
        have HN0 : Hid (Q = none) := Classical.byContradiction fun hn => by have := (HE2.out hn).1; cases this
        go_wp2
        go_ret3
        exact ⟨false, _, _, p, true, rfl, hp4, hM4, hK4, (by intro hc; cases hc), fun _ => HN0.out⟩
      | false =>
        by_cases hA : 29 < v1
        · have hA' : (286 : Int) < (n1 : Int) := by have := HN1.out; omega
          have HN0 : Hid (Q = none) := Classical.byContradiction fun hn => by have := (HE2.out hn).2.1; omega
          clear hn1
          go_wp2
          go_ret3
          exact ⟨false, _, _, p, false, rfl, hp4, hM4, hK4, (by intro hc; cases hc), fun _ => HN0.out⟩
        · have hA' : ¬ (286 : Int) < (n1 : Int) := by have := HN1.out; omega
          by_cases hB : 29 < v2
          · have hB' : (30 : Int) < (n2 : Int) := by have := HN2.out; omega
            have HN0 : Hid (Q = none) := Classical.byContradiction fun hn => by have := (HE2.out hn).2.2.1; omega
            clear hn1 hn2
            go_wp2
            go_ret3
            exact ⟨false, _, _, p, false, rfl, hp4, hM4, hK4, (by intro hc; cases hc), fun _ => HN0.out⟩
          · have hB' : ¬ (30 : Int) < (n2 : Int) := by have := HN2.out; omega
            by_cases hSm : SS = 32768
            · have hSm' : ((SS : Int) != 32768) = false := by simp; omega
              obtain ⟨RL, HRL⟩ : ∃ RL, Hid (lenG ls s N N [] p = RL) := ⟨_, rfl⟩
              have HE3 : Hid ((RL = none → Q = none) ∧ (∀ l q, RL = some (l, q) → (l.getD 256 0 = 0 → Q = none) ∧ (l.getD 256 0 ≠ 0 → Q = some (l.take n1, l.drop n1, q)))) := by
                obtain ⟨r1, r2, r3, r4, r5, r6⟩ := HE.out rfl
                have eN : N = 258 + bitsVal s pos 5 + bitsVal s (pos + 5) 5 := by have := HNN.out; have := HN1.out; have := HN2.out; omega
                have e1 : n1 = 257 + bitsVal s pos 5 := by rw [← HN1.out, r3]
                have hf : full (clens s (pos + 14) (4 + bitsVal s (pos + 10) 4)) := by rw [← r5]; unfold full; rw [HSS.out]; exact hSm
                refine ⟨fun hn => Classical.byContradiction fun hq => ?_, fun l q hl => ⟨fun h0 => Classical.byContradiction fun hq => ?_, fun h0 => ?_⟩⟩
                · obtain ⟨_, _, _, _, l, q, i6, _⟩ := HE2.out hq
                  rw [HRL.out, hn] at i6; cases i6
                · obtain ⟨_, _, _, _, l', q', i6, i7⟩ := HE2.out hq
                  rw [HRL.out, hl] at i6
                  injection i6 with i6; injection i6 with i6 _; subst i6
                  exact i7 h0
                · have h6 := HRL.out
                  rw [hl, r5, r6, eN] at h6
                  rw [← HQ.out, e1]
                  exact ownQ_yes r1 r2 (by omega) (by omega) hf h6 h0
              have hN320 : N ≤ 320 ∧ n1 ≤ N ∧ 257 ≤ n1 ∧ 1 ≤ n2 := by have := HN1.out; have := HN2.out; have := HNN.out; omega
              have hL4 : LenW tb base w4 (.slice none 0 0) [] w4 := ⟨Own.nil _ _, fun g n c hv => (by cases hv), Kept.refl _ _ _⟩
              clear hSm HE HE2
              go_wp2
              go_loopw [14, 15, 16, 17, 18] (fun v _ _ _ _ wr => ∃ (acc : List Nat) (q : Nat) (b : Bool), TA tb base s q out most b wr ∧ LenW tb base w4 v acc wr ∧ Hid (q ≤ 8 * s.size ∧ acc.length ≤ 1000 ∧ ((b = false ∧ acc.length ≤ N ∧ ∃ f, N ≤ f + acc.length ∧ lenG ls s N f acc q = RL) ∨ (RL = none ∧ (b = true ∨ N < acc.length))))) (fun v _ _ _ _ _ => N - sliceLen v)
              case atStart => exact ⟨[], p, false, hM4, hL4, ⟨hp4, by simp, .inl ⟨rfl, by simp, N, by simp, HRL.out⟩⟩⟩
              case round =>
                clear hM4 hL4 c2
                obtain ⟨acc, p5, bd5, hM5, hL5, HI5⟩ := hrel
                obtain ⟨ao, cap, hv⟩ := hL5.form
                subst hv
                obtain ⟨L, HAcc⟩ : ∃ L, Hid (acc.length = L) := ⟨_, rfl⟩
                have hLacc := HAcc.out
                rw [HAcc.out]
                rw [HAcc.out] at hL5
                have hp5 := HI5.out.1
                by_cases hlt3 : L < N
                · have hlt3' : (L : Int) < (N : Int) := by omega
                  have hC5 := hC4.kept hL5.kept
                  have hK5 := hK4.trans hL5.kept
                  go_wp2_with fail
                  refine (symR_walk vC hM5 hs hp5 hC5 (by omega)).mono ?_
                  rintro e w6 ⟨z, p6, bd6, rfl, hp6, hM6, k6, hcase⟩
                  have hL6 := hL5.next k6
                  have hC6 := hC5.kept k6
                  clear hM5 hL5 hC5 k6 hK5
                  rcases hcase with ⟨x, rfl, hx, hb5, hb6, hS6⟩ | ⟨rfl, hS6⟩
                  · subst hb6
                    have HX : Hid (∃ f, N ≤ f + 1 + acc.length ∧ (match lenStep ls s acc p5 with
                        | none => none
                        | some (x, t, q) => putG ls s N f acc x t q) = RL) := by
                      rcases HI5.out.2.2 with ⟨_, _, f1, hf1, hf2⟩ | ⟨_, hq⟩
                      · obtain ⟨f2, rfl⟩ : ∃ f2, f1 = f2 + 1 := ⟨f1 - 1, by omega⟩
                        exact ⟨f2, by omega, by have hm0 := lenG_more (cl := ls) (s := s) (many := N) (f := f2) (acc := acc) (p := p5) (by omega); rw [hf2] at hm0; exact hm0.symm⟩
                      · rcases hq with hq | hq
                        · rw [hb5] at hq; cases hq
                        · omega
                    have HS6 : Hid (symP ls s p5 = some (x, p6)) := hS6
                    have hx19 : x < 19 := by omega
                    have em1 : ((x : Int) == -1) = false := by rw [beq_eq_false_iff_ne]; omega
                    clear hS6 HI5 hx
                    by_cases h16 : x = 16
                    · have e16 : ((x : Int) == 16) = true := by simp; omega
                      by_cases h0 : acc = []
                      · have hL0 : L = 0 := by rw [← hLacc, h0]; rfl
                        have heq0 : ((L : Int) == 0) = true := by simp; omega
                        have HN0 : Hid (Q = none) := by
                          obtain ⟨f1, hf1, hf2⟩ := HX.out
                          subst h16
                          rw [lenStep_16 HS6.out, if_pos h0] at hf2
                          exact HE3.out.1 hf2.symm
                        have hK6 := hK4.trans hL6.kept
                        clear hL0 h16
                        go_wp2
                        go_ret3
                        exact ⟨false, _, _, p6, false, rfl, hp6, hM6, hK6, (by intro hc; cases hc), fun _ => HN0.out⟩
                      · obtain ⟨g, cap3, hv3, hcl1, _⟩ := hL6.last h0
                        injection hv3 with e1 e2 e3
                        subst e1
                        obtain ⟨y, Hy⟩ : ∃ y, Hid (acc.getD (acc.length - 1) 0 = y) := ⟨_, rfl⟩
                        rw [Hy.out, HAcc.out] at hcl1
                        have hpos : 1 ≤ L := by rw [← hLacc]; cases acc with | nil => exact absurd rfl h0 | cons => simp
                        have heq0 : ((L : Int) == 0) = false := by rw [beq_eq_false_iff_ne]; omega
                        obtain ⟨D, HDD⟩ : ∃ D, Hid (L - 1 = D) := ⟨_, rfl⟩
                        rw [HDD.out] at hcl1
                        have hLD : (L : Int) - 1 = (D : Int) := by have := HDD.out; omega
                        have hDL : (D : Int) < (L : Int) := by omega
                        have hc1 : w6.cell? ⟨g, D, none⟩ = some (.int .i64 (y : Int)) := hcl1
                        clear hcl1 e2 e3
                        go_wp2_with fail
                        refine (many_any 2 hM6 hs hp6 (by decide)).mono ?_
                        rintro e w7 ⟨u, p7, bd7, rfl, hu, hp7, hM7, k7, f7, g7⟩
                        have hu' : u < 4 := hu
                        have hL7 := hL6.next k7
                        have hC7 := hC6.kept k7
                        obtain ⟨t, Ht⟩ : ∃ t, Hid (3 + u = t) := ⟨_, rfl⟩
                        have ht : (3 : Int) + (u : Int) = (t : Int) := by have := Ht.out; omega
                        have ht1 : 1 ≤ t := by have := Ht.out; omega
                        have ht2 : t ≤ 138 := by have := Ht.out; omega
                        have HW7 : Hid ((bd7 = true → RL = none) ∧ (bd7 = false → ∃ f, N ≤ f + 1 + acc.length ∧ putG ls s N f acc y t p7 = RL)) := by
                          obtain ⟨f1, hf1, hf2⟩ := HX.out
                          subst h16
                          rw [lenStep_16 HS6.out, if_neg h0] at hf2
                          refine ⟨fun hb => ?_, fun hb => ?_⟩
                          · rw [takeP_no (fun hq => by rw [g7 (by first | rfl | trivial) hq] at hb; cases hb)] at hf2
                            exact hf2.symm
                          · obtain ⟨_, i2, i3, i4⟩ := f7 hb
                            rw [takeP_yes i2, Hy.out] at hf2
                            refine ⟨f1, hf1, ?_⟩
                            rw [← Ht.out, i4, i3]; exact hf2
                        clear hM6 hL6 hC6 k7 f7 g7 h16 hu HX HS6 hc1
                        -- so often more
                        go_wp2
                        go_loopw [14, 18] (fun v i wr => ∃ j : Nat, j ≤ t ∧ i = .int .i64 (j : Int) ∧ TA tb base s p7 out most bd7 wr ∧ LenW tb base w4 v (acc ++ List.replicate j y) wr) (fun _ i _ => t - (intOf i).toNat)
                        case atStart => exact ⟨0, by omega, rfl, hM7, by simpa using hL7⟩
                        case round =>
                          clear hM7 hL7
                          obtain ⟨j, hj, rfl, hM, hL⟩ := hrel
                          obtain ⟨A, HA⟩ : ∃ A : List Nat, Hid (acc ++ List.replicate j y = A) := ⟨acc ++ List.replicate j y, rfl⟩
                          obtain ⟨ao2, cap2, hv2⟩ := hL.form
                          subst hv2
                          rw [HA.out] at hL
                          rw [HA.out]
                          by_cases hlt2 : j < t
                          · have hlt2' : (j : Int) < (t : Int) := by omega
                            obtain ⟨T, HT⟩ : ∃ T, Hid (A.length = T) := ⟨_, rfl⟩
                            have hTe : T ≤ 2000 := by rw [← HT.out, ← HA.out]; simp; omega
                            rw [HT.out] at hL ⊢
                            have hws := hL.kept.size
                            have ho := hL.own
                            go_wp2_with (at_builtin; refine wpList_append_one2 nv nv_one rfl _ _ 29 rfl w4.heap.size 3 i0 (.int .i64 0) 8 Tryd.underlying29 hi hz0 hz1 hz2 rfl _ A T HT.out y rfl (ho.step (below_one _ _)) wr.heap.size rfl (by rw [World.cell?_alloc_at _ _ _ _ rfl]; rfl) (by omega) (by decide) (by simp; omega) ?_)
                            intro g' cap' w8 ho8 hb8 hapt
                            obtain ⟨hL8, hM8⟩ := hL.moreT hM hbl4 ho8 hb8 hapt
                            rw [← HA.out, rep_more] at hL8
                            clear hM hL ho ho8 hb8 hapt
                            go_wp2
                            go_roundw
                            case rel => exact ⟨j + 1, by omega, by go_num, hM8, hL8⟩
                            case measure => simp [intOf]; omega
                          · have hlt2' : ¬ (j : Int) < (t : Int) := by omega
                            have hjt : j = t := by omega
                            have HLen : Hid (A.length = acc.length + t) := by show _ = _; rw [← HA.out, hjt]; simp
                            have HA2 : Hid (acc ++ List.replicate t y = A) := by rw [← HA.out, hjt]; rfl
                            have HI9 : Hid (p7 ≤ 8 * s.size ∧ A.length ≤ 1000 ∧ ((bd7 = false ∧ A.length ≤ N ∧ ∃ f, N ≤ f + A.length ∧ lenG ls s N f A p7 = RL) ∨ (RL = none ∧ (bd7 = true ∨ N < A.length)))) := by
                              refine ⟨hp7, by rw [HLen.out]; omega, ?_⟩
                              rcases Classical.em (bd7 = true) with hb | hb
                              · exact .inr ⟨HW7.out.1 hb, .inl hb⟩
                              · have hb' : bd7 = false := by simpa using hb
                                obtain ⟨f1, hf1, hf2⟩ := HW7.out.2 (by first | exact hb' | trivial)
                                unfold putG at hf2
                                by_cases hov : N - acc.length < t
                                · rw [if_pos hov] at hf2
                                  exact .inr ⟨hf2.symm, .inr (by rw [HLen.out]; omega)⟩
                                · rw [if_neg hov, HA2.out] at hf2
                                  exact .inl ⟨hb', by rw [HLen.out]; omega, f1, by rw [HLen.out]; omega, hf2⟩
                            have HMs : Hid (N - A.length < N - acc.length) := by show _ < _; rw [HLen.out]; omega
                            clear hlt2 hjt
                            go_wp2
                            go_roundw
                            case rel => exact ⟨A, p7, bd7, hM, hL, HI9⟩
                            case measure => simp only [sliceLen]; rw [← HAcc.out]; exact HMs.out
                    · have e16 : ((x : Int) == 16) = false := by rw [beq_eq_false_iff_ne]; omega
                      by_cases h17 : x = 17
                      · have e17 : ((x : Int) == 17) = true := by simp; omega
                        go_wp2_with fail
                        refine (many_any 3 hM6 hs hp6 (by decide)).mono ?_
                        rintro e w7 ⟨u, p7, bd7, rfl, hu, hp7, hM7, k7, f7, g7⟩
                        have hu' : u < 8 := hu
                        have hL7 := hL6.next k7
                        have hC7 := hC6.kept k7
                        obtain ⟨t, Ht⟩ : ∃ t, Hid (3 + u = t) := ⟨_, rfl⟩
                        have ht : (3 : Int) + (u : Int) = (t : Int) := by have := Ht.out; omega
                        have ht1 : 1 ≤ t := by have := Ht.out; omega
                        have ht2 : t ≤ 138 := by have := Ht.out; omega
                        have HW7 : Hid ((bd7 = true → RL = none) ∧ (bd7 = false → ∃ f, N ≤ f + 1 + acc.length ∧ putG ls s N f acc 0 t p7 = RL)) := by
                          obtain ⟨f1, hf1, hf2⟩ := HX.out
                          subst h17
                          rw [lenStep_17 HS6.out] at hf2
                          refine ⟨fun hb => ?_, fun hb => ?_⟩
                          · rw [takeP_no (fun hq => by rw [g7 (by first | rfl | trivial) hq] at hb; cases hb)] at hf2
                            exact hf2.symm
                          · obtain ⟨_, i2, i3, i4⟩ := f7 hb
                            rw [takeP_yes i2] at hf2
                            refine ⟨f1, hf1, ?_⟩
                            rw [← Ht.out, i4, i3]; exact hf2
                        clear hM6 hL6 hC6 k7 f7 g7 h17 hu HX HS6
                        go_wp2_with fail
                        -- so often more
                        go_wp2
                        go_loopw [14, 18] (fun v i wr => ∃ j : Nat, j ≤ t ∧ i = .int .i64 (j : Int) ∧ TA tb base s p7 out most bd7 wr ∧ LenW tb base w4 v (acc ++ List.replicate j 0) wr) (fun _ i _ => t - (intOf i).toNat)
                        case atStart => exact ⟨0, by omega, rfl, hM7, by simpa using hL7⟩
                        case round =>
                          clear hM7 hL7
                          obtain ⟨j, hj, rfl, hM, hL⟩ := hrel
                          obtain ⟨A, HA⟩ : ∃ A : List Nat, Hid (acc ++ List.replicate j 0 = A) := ⟨acc ++ List.replicate j 0, rfl⟩
                          obtain ⟨ao2, cap2, hv2⟩ := hL.form
                          subst hv2
                          rw [HA.out] at hL
                          rw [HA.out]
                          by_cases hlt2 : j < t
                          · have hlt2' : (j : Int) < (t : Int) := by omega
                            obtain ⟨T, HT⟩ : ∃ T, Hid (A.length = T) := ⟨_, rfl⟩
                            have hTe : T ≤ 2000 := by rw [← HT.out, ← HA.out]; simp; omega
                            rw [HT.out] at hL ⊢
                            have hws := hL.kept.size
                            have ho := hL.own
                            go_wp2_with (at_builtin; refine wpList_append_one2 nv nv_one rfl _ _ 29 rfl w4.heap.size 3 i0 (.int .i64 0) 8 Tryd.underlying29 hi hz0 hz1 hz2 rfl _ A T HT.out 0 rfl (ho.step (below_one _ _)) wr.heap.size rfl (by rw [World.cell?_alloc_at _ _ _ _ rfl]; rfl) (by omega) (by decide) (by simp; omega) ?_)
                            intro g' cap' w8 ho8 hb8 hapt
                            obtain ⟨hL8, hM8⟩ := hL.moreT hM hbl4 ho8 hb8 hapt
                            rw [← HA.out, rep_more] at hL8
                            clear hM hL ho ho8 hb8 hapt
                            go_wp2
                            go_roundw
                            case rel => exact ⟨j + 1, by omega, by go_num, hM8, hL8⟩
                            case measure => simp [intOf]; omega
                          · have hlt2' : ¬ (j : Int) < (t : Int) := by omega
                            have hjt : j = t := by omega
                            have HLen : Hid (A.length = acc.length + t) := by show _ = _; rw [← HA.out, hjt]; simp
                            have HA2 : Hid (acc ++ List.replicate t 0 = A) := by rw [← HA.out, hjt]; rfl
                            have HI9 : Hid (p7 ≤ 8 * s.size ∧ A.length ≤ 1000 ∧ ((bd7 = false ∧ A.length ≤ N ∧ ∃ f, N ≤ f + A.length ∧ lenG ls s N f A p7 = RL) ∨ (RL = none ∧ (bd7 = true ∨ N < A.length)))) := by
                              refine ⟨hp7, by rw [HLen.out]; omega, ?_⟩
                              rcases Classical.em (bd7 = true) with hb | hb
                              · exact .inr ⟨HW7.out.1 hb, .inl hb⟩
                              · have hb' : bd7 = false := by simpa using hb
                                obtain ⟨f1, hf1, hf2⟩ := HW7.out.2 (by first | exact hb' | trivial)
                                unfold putG at hf2
                                by_cases hov : N - acc.length < t
                                · rw [if_pos hov] at hf2
                                  exact .inr ⟨hf2.symm, .inr (by rw [HLen.out]; omega)⟩
                                · rw [if_neg hov, HA2.out] at hf2
                                  exact .inl ⟨hb', by rw [HLen.out]; omega, f1, by rw [HLen.out]; omega, hf2⟩
                            have HMs : Hid (N - A.length < N - acc.length) := by show _ < _; rw [HLen.out]; omega
                            clear hlt2 hjt
                            go_wp2
                            go_roundw
                            case rel => exact ⟨A, p7, bd7, hM, hL, HI9⟩
                            case measure => simp only [sliceLen]; rw [← HAcc.out]; exact HMs.out
                      · have e17 : ((x : Int) == 17) = false := by rw [beq_eq_false_iff_ne]; omega
                        by_cases h18 : x = 18
                        · have e18 : ((x : Int) == 18) = true := by simp; omega
                          go_wp2_with fail
                          refine (many_any 7 hM6 hs hp6 (by decide)).mono ?_
                          rintro e w7 ⟨u, p7, bd7, rfl, hu, hp7, hM7, k7, f7, g7⟩
                          have hu' : u < 128 := hu
                          have hL7 := hL6.next k7
                          have hC7 := hC6.kept k7
                          obtain ⟨t, Ht⟩ : ∃ t, Hid (11 + u = t) := ⟨_, rfl⟩
                          have ht : (11 : Int) + (u : Int) = (t : Int) := by have := Ht.out; omega
                          have ht1 : 1 ≤ t := by have := Ht.out; omega
                          have ht2 : t ≤ 138 := by have := Ht.out; omega
                          have HW7 : Hid ((bd7 = true → RL = none) ∧ (bd7 = false → ∃ f, N ≤ f + 1 + acc.length ∧ putG ls s N f acc 0 t p7 = RL)) := by
                            obtain ⟨f1, hf1, hf2⟩ := HX.out
                            subst h18
                            rw [lenStep_18 HS6.out] at hf2
                            refine ⟨fun hb => ?_, fun hb => ?_⟩
                            · rw [takeP_no (fun hq => by rw [g7 (by first | rfl | trivial) hq] at hb; cases hb)] at hf2
                              exact hf2.symm
                            · obtain ⟨_, i2, i3, i4⟩ := f7 hb
                              rw [takeP_yes i2] at hf2
                              refine ⟨f1, hf1, ?_⟩
                              rw [← Ht.out, i4, i3]; exact hf2
                          clear hM6 hL6 hC6 k7 f7 g7 h18 hu HX HS6
                          go_wp2_with fail
                          -- so often more
                          go_wp2
                          go_loopw [14, 18] (fun v i wr => ∃ j : Nat, j ≤ t ∧ i = .int .i64 (j : Int) ∧ TA tb base s p7 out most bd7 wr ∧ LenW tb base w4 v (acc ++ List.replicate j 0) wr) (fun _ i _ => t - (intOf i).toNat)
                          case atStart => exact ⟨0, by omega, rfl, hM7, by simpa using hL7⟩
                          case round =>
                            clear hM7 hL7
                            obtain ⟨j, hj, rfl, hM, hL⟩ := hrel
                            obtain ⟨A, HA⟩ : ∃ A : List Nat, Hid (acc ++ List.replicate j 0 = A) := ⟨acc ++ List.replicate j 0, rfl⟩
                            obtain ⟨ao2, cap2, hv2⟩ := hL.form
                            subst hv2
                            rw [HA.out] at hL
                            rw [HA.out]
                            by_cases hlt2 : j < t
                            · have hlt2' : (j : Int) < (t : Int) := by omega
                              obtain ⟨T, HT⟩ : ∃ T, Hid (A.length = T) := ⟨_, rfl⟩
                              have hTe : T ≤ 2000 := by rw [← HT.out, ← HA.out]; simp; omega
                              rw [HT.out] at hL ⊢
                              have hws := hL.kept.size
                              have ho := hL.own
                              go_wp2_with (at_builtin; refine wpList_append_one2 nv nv_one rfl _ _ 29 rfl w4.heap.size 3 i0 (.int .i64 0) 8 Tryd.underlying29 hi hz0 hz1 hz2 rfl _ A T HT.out 0 rfl (ho.step (below_one _ _)) wr.heap.size rfl (by rw [World.cell?_alloc_at _ _ _ _ rfl]; rfl) (by omega) (by decide) (by simp; omega) ?_)
                              intro g' cap' w8 ho8 hb8 hapt
                              obtain ⟨hL8, hM8⟩ := hL.moreT hM hbl4 ho8 hb8 hapt
                              rw [← HA.out, rep_more] at hL8
                              clear hM hL ho ho8 hb8 hapt
                              go_wp2
                              go_roundw
                              case rel => exact ⟨j + 1, by omega, by go_num, hM8, hL8⟩
                              case measure => simp [intOf]; omega
                            · have hlt2' : ¬ (j : Int) < (t : Int) := by omega
                              have hjt : j = t := by omega
                              have HLen : Hid (A.length = acc.length + t) := by show _ = _; rw [← HA.out, hjt]; simp
                              have HA2 : Hid (acc ++ List.replicate t 0 = A) := by rw [← HA.out, hjt]; rfl
                              have HI9 : Hid (p7 ≤ 8 * s.size ∧ A.length ≤ 1000 ∧ ((bd7 = false ∧ A.length ≤ N ∧ ∃ f, N ≤ f + A.length ∧ lenG ls s N f A p7 = RL) ∨ (RL = none ∧ (bd7 = true ∨ N < A.length)))) := by
                                refine ⟨hp7, by rw [HLen.out]; omega, ?_⟩
                                rcases Classical.em (bd7 = true) with hb | hb
                                · exact .inr ⟨HW7.out.1 hb, .inl hb⟩
                                · have hb' : bd7 = false := by simpa using hb
                                  obtain ⟨f1, hf1, hf2⟩ := HW7.out.2 (by first | exact hb' | trivial)
                                  unfold putG at hf2
                                  by_cases hov : N - acc.length < t
                                  · rw [if_pos hov] at hf2
                                    exact .inr ⟨hf2.symm, .inr (by rw [HLen.out]; omega)⟩
                                  · rw [if_neg hov, HA2.out] at hf2
                                    exact .inl ⟨hb', by rw [HLen.out]; omega, f1, by rw [HLen.out]; omega, hf2⟩
                              have HMs : Hid (N - A.length < N - acc.length) := by show _ < _; rw [HLen.out]; omega
                              clear hlt2 hjt
                              go_wp2
                              go_roundw
                              case rel => exact ⟨A, p7, bd7, hM, hL, HI9⟩
                              case measure => simp only [sliceLen]; rw [← HAcc.out]; exact HMs.out
                        · have e18 : ((x : Int) == 18) = false := by rw [beq_eq_false_iff_ne]; omega
                          have hx15 : x ≤ 15 := by omega
                          have HW7 : Hid ((false = true → RL = none) ∧ (false = false → ∃ f, N ≤ f + 1 + acc.length ∧ putG ls s N f acc x 1 p6 = RL)) := by
                            obtain ⟨f1, hf1, hf2⟩ := HX.out
                            rw [lenStep_x HS6.out hx15] at hf2
                            exact ⟨(by intro hc; cases hc), fun _ => ⟨f1, hf1, hf2⟩⟩
                          have hM7 := hM6
                          have hL7 := hL6
                          have hp7 := hp6
                          clear hM6 hL6 hC6 HX HS6
                          -- so often more
                          go_wp2
                          go_loopw [14, 18] (fun v i wr => ∃ j : Nat, j ≤ 1 ∧ i = .int .i64 (j : Int) ∧ TA tb base s p6 out most false wr ∧ LenW tb base w4 v (acc ++ List.replicate j x) wr) (fun _ i _ => 1 - (intOf i).toNat)
                          case atStart => exact ⟨0, by omega, rfl, hM7, by simpa using hL7⟩
                          case round =>
                            clear hM7 hL7
                            obtain ⟨j, hj, rfl, hM, hL⟩ := hrel
                            obtain ⟨A, HA⟩ : ∃ A : List Nat, Hid (acc ++ List.replicate j x = A) := ⟨acc ++ List.replicate j x, rfl⟩
                            obtain ⟨ao2, cap2, hv2⟩ := hL.form
                            subst hv2
                            rw [HA.out] at hL
                            rw [HA.out]
                            by_cases hlt2 : j < 1
                            · have hlt2' : (j : Int) < (1 : Int) := by omega
                              obtain ⟨T, HT⟩ : ∃ T, Hid (A.length = T) := ⟨_, rfl⟩
                              have hTe : T ≤ 2000 := by rw [← HT.out, ← HA.out]; simp; omega
                              rw [HT.out] at hL ⊢
                              have hws := hL.kept.size
                              have ho := hL.own
                              go_wp2_with (at_builtin; refine wpList_append_one2 nv nv_one rfl _ _ 29 rfl w4.heap.size 3 i0 (.int .i64 0) 8 Tryd.underlying29 hi hz0 hz1 hz2 rfl _ A T HT.out x rfl (ho.step (below_one _ _)) wr.heap.size rfl (by rw [World.cell?_alloc_at _ _ _ _ rfl]; rfl) (by omega) (by decide) (by simp; omega) ?_)
                              intro g' cap' w8 ho8 hb8 hapt
                              obtain ⟨hL8, hM8⟩ := hL.moreT hM hbl4 ho8 hb8 hapt
                              rw [← HA.out, rep_more] at hL8
                              clear hM hL ho ho8 hb8 hapt
                              go_wp2
                              go_roundw
                              case rel => exact ⟨j + 1, by omega, by go_num, hM8, hL8⟩
                              case measure => simp [intOf]; omega
                            · have hlt2' : ¬ (j : Int) < (1 : Int) := by omega
                              have hjt : j = 1 := by omega
                              have HLen : Hid (A.length = acc.length + 1) := by show _ = _; rw [← HA.out, hjt]; simp
                              have HA2 : Hid (acc ++ List.replicate 1 x = A) := by rw [← HA.out, hjt]; rfl
                              have HI9 : Hid (p6 ≤ 8 * s.size ∧ A.length ≤ 1000 ∧ ((false = false ∧ A.length ≤ N ∧ ∃ f, N ≤ f + A.length ∧ lenG ls s N f A p6 = RL) ∨ (RL = none ∧ (false = true ∨ N < A.length)))) := by
                                refine ⟨hp7, by rw [HLen.out]; omega, ?_⟩
                                rcases Classical.em (false = true) with hb | hb
                                · exact .inr ⟨HW7.out.1 hb, .inl hb⟩
                                · have hb' : false = false := rfl
                                  obtain ⟨f1, hf1, hf2⟩ := HW7.out.2 (by first | exact hb' | trivial)
                                  unfold putG at hf2
                                  by_cases hov : N - acc.length < 1
                                  · rw [if_pos hov] at hf2
                                    exact .inr ⟨hf2.symm, .inr (by rw [HLen.out]; omega)⟩
                                  · rw [if_neg hov, HA2.out] at hf2
                                    exact .inl ⟨hb', by rw [HLen.out]; omega, f1, by rw [HLen.out]; omega, hf2⟩
                              have HMs : Hid (N - A.length < N - acc.length) := by show _ < _; rw [HLen.out]; omega
                              clear hlt2 hjt
                              go_wp2
                              go_roundw
                              case rel => exact ⟨A, p6, false, hM, hL, HI9⟩
                              case measure => simp only [sliceLen]; rw [← HAcc.out]; exact HMs.out
                  · have HN0 : Hid (Q = none) := by
                      refine HE3.out.1 ?_
                      rcases HI5.out.2.2 with ⟨b1, _, f1, hf1, hf2⟩ | ⟨hq, _⟩
                      · obtain ⟨f2, rfl⟩ : ∃ f2, f1 = f2 + 1 := ⟨f1 - 1, by omega⟩
                        rw [lenG_more (by omega), lenStep_none (hS6 b1)] at hf2
                        exact hf2.symm
                      · exact hq
                    have hK6 := hK4.trans hL6.kept
                    have em1 : ((-1 : Int) == -1) = true := by decide
                    clear hS6
                    go_wp2
                    go_ret3
                    exact ⟨false, _, _, p6, bd6, rfl, hp6, hM6, hK6, (by intro hc; cases hc), fun _ => HN0.out⟩
                · have hlt3' : ¬ (L : Int) < (N : Int) := by omega
                  have c25 := hM5.c2
                  have hK5 := hK4.trans hL5.kept
                  cases bd5 with
                  | true =>
                    have HN0 : Hid (Q = none) := by
                      refine HE3.out.1 ?_
                      rcases HI5.out.2.2 with ⟨b1, _⟩ | ⟨hq, _⟩
                      · cases b1
                      · exact hq
                    go_wp2
                    go_ret3
                    exact ⟨false, _, _, p5, true, rfl, hp5, hM5, hK5, (by intro hc; cases hc), fun _ => HN0.out⟩
                  | false =>
                    by_cases hLN : L = N
                    · have hLN' : ((L : Int) != (N : Int)) = false := by simp; omega
                      have HRs : Hid (RL = some (acc, p5)) := by
                        rcases HI5.out.2.2 with ⟨_, _, f1, _, hf2⟩ | ⟨_, hq⟩
                        · rw [← hf2, lenG_done (by omega)]; rfl
                        · rcases hq with hq | hq
                          · cases hq
                          · omega
                      have hne : acc ≠ [] := by intro hc; rw [hc] at hLacc; simp at hLacc; omega
                      obtain ⟨g, cap3, hv3, hcap, hLA, hag, _⟩ := hL5.cells hne
                      injection hv3 with e1 e2 e3
                      subst e1; subst e3
                      rw [HAcc.out] at hcap
                      obtain ⟨x, HX⟩ : ∃ x, Hid (acc[256]? = some x ∧ acc.getD 256 0 = x) := ⟨acc[256]'(by omega), List.getElem?_eq_getElem (by omega), by rw [List.getD_eq_getElem?_getD, List.getElem?_eq_getElem (by omega)]; rfl⟩
                      have hcx : wr.cell? ⟨g, 256, none⟩ = some (.int .i64 (x : Int)) := by have := hLA 256 x HX.out.1; rw [Nat.zero_add] at this; exact this
                      have h256 : (256 : Int) < (L : Int) := by omega
                      have hb1 : (n1 : Int) ≤ (cap : Int) := by omega
                      have hb2 : (n1 : Int) ≤ (L : Int) := by omega
                      by_cases hx0 : x = 0
                      · have hx0' : ((x : Int) == 0) = true := by simp; omega
                        have HN0 : Hid (Q = none) := (HE3.out.2 acc p5 HRs.out).1 (by rw [HX.out.2]; exact hx0)
                        clear hx0 hLN e2
                        go_wp2
                        go_ret3
                        exact ⟨false, _, _, p5, false, rfl, hp5, hM5, hK5, (by intro hc; cases hc), fun _ => HN0.out⟩
                      · have hx0' : ((x : Int) == 0) = false := by rw [beq_eq_false_iff_ne]; omega
                        have HQs : Hid (Q = some (acc.take n1, acc.drop n1, p5)) := (HE3.out.2 acc p5 HRs.out).2 (by rw [HX.out.2]; exact hx0)
                        have HLs : Hid (∀ W : World, W.heap[g]? = wr.heap[g]? → Apart tb W g → LenSl tb W (.slice (some ⟨g, 0, none⟩) n1 cap) (acc.take n1) ∧ LenSl tb W (.slice (some ⟨g, n1, none⟩) (L - n1) (cap - n1)) (acc.drop n1)) := fun W hW hA => by
                          have hLA2 := hLA.kept hW
                          exact ⟨⟨g, 0, cap, by rw [List.length_take, show min n1 acc.length = n1 by omega], hLA2.take n1, hA⟩, ⟨g, n1, cap - n1, by rw [List.length_drop, hLacc], hLA2.drop n1, hA⟩⟩
                        have HB9 : Hid (0 < (acc.take n1).length ∧ 0 < (acc.drop n1).length ∧ (acc.take n1).length ≤ 1000 ∧ (acc.drop n1).length ≤ 1000) := by
                          have := HNN.out
                          rw [List.length_take, List.length_drop]; exact ⟨by omega, by omega, by omega, by omega⟩
                        have HMd : Hid (∀ n, TA tb base s p5 out most false (wr.drewN n)) := fun n => hM5.drew n
                        have HKd : Hid (∀ n, Kept tb base w (wr.drewN n)) := fun n => hK5.trans (Kept.drew n)
                        have HAp : Hid (∀ n, Apart tb (wr.drewN n) g) := fun n => hag
                        clear hx0 hLN e2 hM5 hL5 hLA HI5
                        go_wp2_with fail
                        go_quiet (fail)
                        go_wp2
                        go_ret3
                        exact ⟨true, _, _, p5, false, rfl, hp5, HMd.out nq, HKd.out nq, fun _ => ⟨rfl, acc.take n1, acc.drop n1, HQs.out, (HLs.out _ rfl (HAp.out nq)).1, (HLs.out _ rfl (HAp.out nq)).2, HB9.out.1, HB9.out.2.1, HB9.out.2.2.1, HB9.out.2.2.2⟩, (by intro hc; cases hc)⟩
                    · have hLN' : ((L : Int) != (N : Int)) = true := by simp; omega
                      have HN0 : Hid (Q = none) := by
                        refine HE3.out.1 ?_
                        rcases HI5.out.2.2 with ⟨_, hle, _⟩ | ⟨hq, _⟩
                        · omega
                        · exact hq
                      clear hLN
                      go_wp2
                      go_ret3
                      exact ⟨false, _, _, p5, false, rfl, hp5, hM5, hK5, (by intro hc; cases hc), fun _ => HN0.out⟩
            · have hSm' : ((SS : Int) != 32768) = true := by simp; omega
              have HN0 : Hid (Q = none) := Classical.byContradiction fun hn => by have := (HE2.out hn).2.2.2.1; omega
              clear hSm
              go_wp2
              go_ret3
              exact ⟨false, _, _, p, false, rfl, hp4, hM4, hK4, (by intro hc; cases hc), fun _ => HN0.out⟩
end
end Go.Proofs.YtjilhneefbakhaaDoor.Inf
