/- makeCode: counts, places, and the symbols in order. -/
import Derived.Test.YtjilhneefbakhaaDoorCodeB
namespace Go.Proofs.YtjilhneefbakhaaDoor.Inf
open Go.RowKit Go.Proofs.YtjilhneefbakhaaDoor.Sha

/-- Numbers in a block of their own. -/
structure Blk (w : World) (b : Nat) (xs : List Nat) : Prop where
  cell : ∀ j x, xs[j]? = some x → w.cell? ⟨b, j, none⟩ = some (.int .i64 ((x : Nat) : Int))
  fro : ∀ j, j < xs.length → w.frozen? ⟨b, j, none⟩ = false
theorem Blk.nil (w : World) (b : Nat) : Blk w b [] := ⟨fun j x h => by simp at h, fun j h => by simp at h⟩
theorem Blk.at {w : World} {b : Nat} {xs : List Nat} (h : Blk w b xs) (k x : Nat) (hk : xs[k]? = some x) : w.cell? ⟨b, k, none⟩ = some (.int .i64 (x : Int)) ∧ w.frozen? ⟨b, k, none⟩ = false :=
  ⟨h.cell k x hk, h.fro k (List.getElem?_eq_some_iff.1 hk).1⟩
theorem Blk.set {w : World} {b : Nat} {xs : List Nat} (h : Blk w b xs) (k y : Nat) (hk : k < xs.length) : Blk (w.setCell ⟨b, k, none⟩ (.int .i64 (y : Int))) b (xs.set k y) := by
  refine ⟨fun j x hj => ?_, fun j hj => by rw [World.frozen?_setCell]; exact h.fro j (by simpa using hj)⟩
  rw [List.getElem?_set] at hj
  by_cases he : k = j
  · subst he
    simp [hk] at hj
    subst hj
    exact World.cell?_setCell_same _ _ _ (h.cell k xs[k] (List.getElem?_eq_getElem hk))
  · rw [if_neg he] at hj
    rw [World.cell?_setCell_other _ _ _ _ (by intro e; injection e with _ e1; exact he e1)]; exact h.cell j x hj
theorem Blk.other {w : World} {b b' k : Nat} {xs : List Nat} {v : Value} (h : Blk w b xs) (hb : b' ≠ b) : Blk (w.setCell ⟨b', k, none⟩ v) b xs := by
  refine ⟨fun j x hj => ?_, fun j hj => by rw [World.frozen?_setCell]; exact h.fro j hj⟩
  rw [World.cell?_setCell_other _ _ _ _ (by intro e; injection e with e1; exact hb e1)]; exact h.cell j x hj
theorem Blk.step {w w' : World} {b : Nat} {xs : List Nat} (h : Blk w b xs) (hb : Below w.heap.size w w') (hl : b < w.heap.size) : Blk w' b xs := by
  refine ⟨fun j x hj => ?_, fun j hj => ?_⟩
  · rw [hb.cell (p := ⟨b, j, none⟩) hl]; exact h.cell j x hj
  · rw [hb.frozen (p := ⟨b, j, none⟩) hl]; exact h.fro j hj
theorem Blk.drew {w : World} {b : Nat} {xs : List Nat} (h : Blk w b xs) (n : Nat) : Blk (w.drewN n) b xs := ⟨h.cell, h.fro⟩
/-- What lies in memory while a set of codes is made. -/
structure MkW (w : World) (K P l : List Nat) (sv : Value) (z : Nat) (wr : World) : Prop where
  kb : Blk wr (w.heap.size + 1) K
  ks : wr.cell? ⟨w.heap.size + 1, 16, none⟩ = some sv
  kf : wr.frozen? ⟨w.heap.size + 1, 16, none⟩ = false
  pb : Blk wr (w.heap.size + 2) P
  sb : Blk wr (w.heap.size + 3) l
  res : wr.there w.heap.size 0 17
  bel : Below w.heap.size w wr
  siz : wr.heap.size = w.heap.size + z
theorem there_set {w : World} {b o n : Nat} (h : w.there b o n) (p : Addr) (v : Value) : (w.setCell p v).there b o n := by
  intro j hj
  obtain ⟨h1, h2⟩ := h j hj
  rw [World.frozen?_setCell]
  refine ⟨?_, h2⟩
  by_cases he : p = ⟨b, o + j, none⟩
  · obtain ⟨u, hu⟩ := Option.isSome_iff_exists.1 h1
    rw [he, World.cell?_setCell_same _ _ _ hu]; rfl
  · rw [World.cell?_setCell_other _ _ _ _ he]; exact h1
section
variable {w wr : World} {K P l : List Nat} {sv : Value} {z : Nat}
theorem MkW.setK (h : MkW w K P l sv z wr) (k y : Nat) (hk : k < K.length) (hk16 : K.length = 16) : MkW w (K.set k y) P l sv z (wr.setCell ⟨w.heap.size + 1, k, none⟩ (.int .i64 (y : Int))) :=
  ⟨h.kb.set k y hk, by rw [World.cell?_setCell_other _ _ _ _ (by intro e; injection e with _ e1; omega)]; exact h.ks, by rw [World.frozen?_setCell]; exact h.kf, h.pb.other (by omega), h.sb.other (by omega), there_set h.res _ _, h.bel.setCell (p := ⟨w.heap.size + 1, k, none⟩) (show w.heap.size ≤ w.heap.size + 1 by omega) _, by simpa using h.siz⟩
theorem MkW.setP (h : MkW w K P l sv z wr) (k y : Nat) (hk : k < P.length) : MkW w K (P.set k y) l sv z (wr.setCell ⟨w.heap.size + 2, k, none⟩ (.int .i64 (y : Int))) :=
  ⟨h.kb.other (by omega), by rw [World.cell?_setCell_other _ _ _ _ (by intro e; injection e with e1; omega)]; exact h.ks, by rw [World.frozen?_setCell]; exact h.kf, h.pb.set k y hk, h.sb.other (by omega), there_set h.res _ _, h.bel.setCell (p := ⟨w.heap.size + 2, k, none⟩) (show w.heap.size ≤ w.heap.size + 2 by omega) _, by simpa using h.siz⟩
theorem MkW.setS (h : MkW w K P l sv z wr) (k y : Nat) (hk : k < l.length) : MkW w K P (l.set k y) sv z (wr.setCell ⟨w.heap.size + 3, k, none⟩ (.int .i64 (y : Int))) :=
  ⟨h.kb.other (by omega), by rw [World.cell?_setCell_other _ _ _ _ (by intro e; injection e with e1; omega)]; exact h.ks, by rw [World.frozen?_setCell]; exact h.kf, h.pb.other (by omega), h.sb.set k y hk, there_set h.res _ _, h.bel.setCell (p := ⟨w.heap.size + 3, k, none⟩) (show w.heap.size ≤ w.heap.size + 3 by omega) _, by simpa using h.siz⟩
theorem MkW.drew (h : MkW w K P l sv z wr) (n : Nat) : MkW w K P l sv z (wr.drewN n) :=
  ⟨h.kb.drew n, h.ks, h.kf, h.pb.drew n, h.sb.drew n, h.res, h.bel.trans ((below_drewN n).mono h.bel.size), h.siz⟩
end
/-- The counts of the first k symbols. -/
def cntK (lens : List Nat) (k : Nat) : List Nat := (List.range 16).map fun n => (row lens n k).length
theorem cntK_get (lens : List Nat) (k n : Nat) (hn : n < 16) : (cntK lens k)[n]? = some (row lens n k).length := by simp [cntK, hn]
theorem cntK_len (lens : List Nat) (k : Nat) : (cntK lens k).length = 16 := by simp [cntK]
theorem cntK_step (lens : List Nat) (k n : Nat) (hn : n < 16) (he : lens.getD k 0 = n) : (cntK lens k).set n ((row lens n k).length + 1) = cntK lens (k + 1) := by
  apply List.ext_getElem?
  intro i
  rw [List.getElem?_set, cntK_len]
  by_cases hi : i < 16
  · rw [cntK_get lens (k + 1) i hi]
    simp only [row]
    by_cases h2 : n = i
    · subst h2; rw [if_pos rfl, if_pos hn, if_pos he]; simp
    · rw [if_neg h2, cntK_get lens k i hi, if_neg (by rw [he]; exact h2)]
  · rw [if_neg (by omega), List.getElem?_eq_none (by rw [cntK_len]; omega), List.getElem?_eq_none (by rw [cntK_len]; omega)]
def cnL (lens : List Nat) : List Nat := (List.range 16).map (cn lens)
theorem cnL_get (lens : List Nat) (n : Nat) (hn : n < 16) : (cnL lens)[n]? = some (cn lens n) := by simp [cnL, hn]
theorem cnL_len (lens : List Nat) : (cnL lens).length = 16 := by simp [cnL]
theorem cnL_of (lens : List Nat) : (cntK lens lens.length).set 0 0 = cnL lens := by
  apply List.ext_getElem?
  intro i
  rw [List.getElem?_set, cntK_len]
  by_cases hi : i < 16
  · rw [cnL_get lens i hi]
    by_cases h2 : 0 = i
    · subst h2; simp [cn]
    · rw [if_neg h2, cntK_get lens _ i hi]
      unfold cn; rw [if_neg (by omega)]; rfl
  · rw [if_neg (by omega), List.getElem?_eq_none (by rw [cntK_len]; omega), List.getElem?_eq_none (by rw [cnL_len]; omega)]
/-- The places up to length i. -/
def plI (lens : List Nat) (i : Nat) : List Nat := (List.range 17).map fun n => if n ≤ i then off lens (n - 1) else 0
theorem plI_len (lens : List Nat) (i : Nat) : (plI lens i).length = 17 := by simp [plI]
theorem plI_get (lens : List Nat) (i n : Nat) (hn : n < 17) : (plI lens i)[n]? = some (if n ≤ i then off lens (n - 1) else 0) := by simp [plI, hn]
theorem off_cn (lens : List Nat) (n : Nat) : off lens (n - 1) + cn lens n = off lens n := by
  cases n with
  | zero => simp [off, cn]
  | succ n => simp [off, cn]
theorem plI_step (lens : List Nat) (i : Nat) (hi : i < 16) : (plI lens i).set (i + 1) (off lens (i - 1) + cn lens i) = plI lens (i + 1) := by
  apply List.ext_getElem?
  intro j
  rw [List.getElem?_set, plI_len]
  by_cases hj : j < 17
  · rw [plI_get lens (i + 1) j hj]
    by_cases h2 : i + 1 = j
    · subst h2; rw [if_pos rfl, if_pos (by omega), if_pos (Nat.le_refl _), off_cn]; rfl
    · rw [if_neg h2, plI_get lens i j hj]
      by_cases h3 : j ≤ i
      · rw [if_pos h3, if_pos (by omega)]
      · rw [if_neg h3, if_neg (by omega)]
  · rw [if_neg (by omega), List.getElem?_eq_none (by rw [plI_len]; omega), List.getElem?_eq_none (by rw [plI_len]; omega)]
/-- The places when k symbols are laid. -/
def plK (lens : List Nat) (k : Nat) : List Nat := (List.range 17).map fun n => off lens (n - 1) + (if n = 0 ∨ n = 16 then 0 else (row lens n k).length)
theorem plK_len (lens : List Nat) (k : Nat) : (plK lens k).length = 17 := by simp [plK]
theorem plK_get (lens : List Nat) (k n : Nat) (hn : n < 17) : (plK lens k)[n]? = some (off lens (n - 1) + (if n = 0 ∨ n = 16 then 0 else (row lens n k).length)) := by simp [plK, hn]
theorem plK_zero (lens : List Nat) : plI lens 16 = plK lens 0 := by
  apply List.ext_getElem?
  intro j
  by_cases hj : j < 17
  · rw [plI_get lens 16 j hj, plK_get lens 0 j hj, if_pos (by omega)]; simp [row]
  · rw [List.getElem?_eq_none (by rw [plI_len]; omega), List.getElem?_eq_none (by rw [plK_len]; omega)]
theorem plK_step (lens : List Nat) (k n : Nat) (hn : n < 15) (he : lens.getD k 0 = n + 1) : (plK lens k).set (n + 1) (off lens n + (row lens (n + 1) k).length + 1) = plK lens (k + 1) := by
  apply List.ext_getElem?
  intro j
  rw [List.getElem?_set, plK_len]
  by_cases hj : j < 17
  · rw [plK_get lens (k + 1) j hj]
    simp only [row]
    by_cases h2 : n + 1 = j
    · subst h2; rw [if_pos rfl, if_pos (by omega), if_neg (by omega), if_pos he]; simp; omega
    · rw [if_neg h2, plK_get lens k j hj, if_neg (show ¬ lens.getD k 0 = j by rw [he]; exact h2)]
  · rw [if_neg (by omega), List.getElem?_eq_none (by rw [plK_len]; omega), List.getElem?_eq_none (by rw [plK_len]; omega)]
theorem plK_same (lens : List Nat) (k : Nat) (he : lens.getD k 0 = 0) : plK lens (k + 1) = plK lens k := by
  apply List.ext_getElem?
  intro j
  by_cases hj : j < 17
  · rw [plK_get lens (k + 1) j hj, plK_get lens k j hj]
    simp only [row]
    by_cases h0 : j = 0 ∨ j = 16
    · rw [if_pos h0, if_pos h0]
    · rw [if_neg h0, if_neg h0, if_neg (show ¬ lens.getD k 0 = j by rw [he]; omega)]
  · rw [List.getElem?_eq_none (by rw [plK_len]; omega), List.getElem?_eq_none (by rw [plK_len]; omega)]
/-- The symbols in order, so far as k of them are laid. -/
def SortK (lens : List Nat) (k : Nat) (l : List Nat) : Prop := l.length = off lens 15 ∧ ∀ n, n < 15 → ∀ j x, (row lens (n + 1) k)[j]? = some x → l[off lens n + j]? = some x
theorem SortK.same {lens : List Nat} {k : Nat} {l : List Nat} (h : SortK lens k l) (he : lens.getD k 0 = 0) : SortK lens (k + 1) l := by
  refine ⟨h.1, fun n hn j x hj => h.2 n hn j x ?_⟩
  rw [row, if_neg (by rw [he]; omega)] at hj
  exact hj
theorem off_room (lens : List Nat) (k n : Nat) (hk : k < lens.length) (hn : n < 15) (he : lens.getD k 0 = n + 1) : off lens n + (row lens (n + 1) k).length < off lens 15 := by
  have h1 := row_here lens k hk
  rw [he] at h1
  have h2 := off_mono lens (n + 1) 15 (by omega)
  rw [off] at h2
  omega
theorem SortK.put {lens : List Nat} {k n : Nat} {l : List Nat} (h : SortK lens k l) (hk : k < lens.length) (hn : n < 15) (he : lens.getD k 0 = n + 1) : SortK lens (k + 1) (l.set (off lens n + (row lens (n + 1) k).length) k) := by
  have hroom := off_room lens k n hk hn he
  refine ⟨by rw [List.length_set]; exact h.1, fun m hm j x hj => ?_⟩
  rw [List.getElem?_set]
  rw [row] at hj
  by_cases hmn : m = n
  · subst hmn
    rw [if_pos he] at hj
    by_cases hj2 : j = (row lens (m + 1) k).length
    · subst hj2
      rw [List.getElem?_append_right (Nat.le_refl _)] at hj
      simp at hj
      subst hj
      rw [if_pos rfl, if_pos (by rw [h.1]; exact hroom)]
    · have hj3 : j < (row lens (m + 1) k).length := by
        have := (List.getElem?_eq_some_iff.1 hj).1
        simp at this; omega
      rw [List.getElem?_append_left hj3] at hj
      rw [if_neg (by omega)]
      exact h.2 m hm j x hj
  · rw [if_neg (by rw [he]; omega)] at hj
    have hj2 : j < (row lens (m + 1) k).length := (List.getElem?_eq_some_iff.1 hj).1
    have hj3 : (row lens (m + 1) k).length ≤ cnt lens (m + 1) := row_mono lens (m + 1) k lens.length (by omega)
    have hr := row_here lens k hk
    rw [he] at hr
    rw [if_neg, h.2 m hm j x hj]
    rcases Nat.lt_or_ge m n with hlt | hge
    · have := off_mono lens (m + 1) n hlt
      rw [off] at this; omega
    · have := off_mono lens (n + 1) m (by omega)
      rw [off] at this; omega
theorem SortK.done {lens : List Nat} {l : List Nat} (h : SortK lens lens.length l) : Sorted lens l := ⟨h.1, h.2⟩
end Go.Proofs.YtjilhneefbakhaaDoor.Inf
