/- What the walks of the program's own texts lean on: worlds that differ in new blocks alone. -/
import Derived.Test.YtmodongnganbfaaGreatDoorProg
import Derived.WalkKit
import Derived.BigRegion
import Derived.BigQuiet
import Derived.Deep.QuietTactic
import Derived.Deep.WholeRow
import Derived.Laws.BitsAllLaws
import Derived.StillTailTactics
import Derived.ArgAppend
import Derived.Laws.IdiomStrings
namespace Go.Proofs.YtmodongnganbfaaGreatDoor.Sha
open Go.RowKit

theorem lt_of_cell {w : World} {a : Addr} {v : Value} (h : w.cell? a = some v) : a.block < w.heap.size := by
  rcases Nat.lt_or_ge a.block w.heap.size with h' | h'
  · exact h'
  · simp [World.cell?, Array.getElem?_eq_none h'] at h
theorem cell_below {w w' : World} {a : Addr} {v : Value} (hb : Below w.heap.size w w') (h : w.cell? a = some v) : w'.cell? a = some v := by
  rw [hb.cell (p := a) (lt_of_cell h)]; exact h
theorem below_drewN {w : World} (n : Nat) : Below w.heap.size w (w.drewN n) := ⟨rfl, rfl, rfl, Nat.le_refl _, fun _ _ => rfl⟩
theorem below_one (w : World) (o : Obj) : Below w.heap.size w (w.alloc o) := (Below.refl _ w).alloc (Nat.le_refl _) _
theorem grown_of_below {w w' : World} (h : Below w.heap.size w w') : w.grownBy w' none := ⟨h.os, h.tape, h.output, h.size, fun k hk _ => h.block k hk⟩

end Go.Proofs.YtmodongnganbfaaGreatDoor.Sha
/- What lies in memory: cells below a bound stay; the first bytes of a text. No program. -/
namespace Go.Proofs.YtmodongnganbfaaGreatDoor
open Go.RowKit
theorem lt_of_cell {w : World} {a : Addr} {v : Value} (h : w.cell? a = some v) : a.block < w.heap.size := by
  rcases Nat.lt_or_ge a.block w.heap.size with h' | h'
  · exact h'
  · simp [World.cell?, Array.getElem?_eq_none h'] at h
theorem lt_of_block {w : World} {n : Nat} {o : Obj} (h : w.heap[n]? = some o) : n < w.heap.size := by
  rcases Nat.lt_or_ge n w.heap.size with h' | h'
  · exact h'
  · simp [Array.getElem?_eq_none h'] at h
theorem cell_below {w w' : World} {a : Addr} {v : Value} (hb : Below w.heap.size w w') (h : w.cell? a = some v) : w'.cell? a = some v := by
  rw [hb.cell (p := a) (lt_of_cell h)]; exact h
theorem bcell {W w1 : World} (hb : Below W.heap.size W w1) : (∀ b o, b < W.heap.size → w1.cell? ⟨b, o, none⟩ = W.cell? ⟨b, o, none⟩) ∧ (∀ b o, b < W.heap.size → w1.frozen? ⟨b, o, none⟩ = W.frozen? ⟨b, o, none⟩) :=
  ⟨fun b o h => hb.cell (p := ⟨b, o, none⟩) h, fun b o h => hb.frozen (p := ⟨b, o, none⟩) h⟩
theorem take_snoc (s : ByteArray) (k : Nat) (h : k < s.size) : s.data.toList.take (k + 1) = s.data.toList.take k ++ [s[k]] := by
  rw [List.take_succ_eq_append_getElem (by simpa using h)]; rfl
theorem drop_at (s : ByteArray) (k : Nat) (h : k < s.size) : s.data.toList.drop k = s[k] :: s.data.toList.drop (k + 1) := by
  rw [List.drop_eq_getElem_cons (by simpa using h)]; rfl
end Go.Proofs.YtmodongnganbfaaGreatDoor
/- Slices that a call makes and appends to, told by their cells alone: nil, or some cells in a block of the call's own, marked by the run-time or not. -/
namespace Go.Proofs.YtmodongnganbfaaGreatDoor.Sha
open Go.RowKit

def Own (w : World) (base : Nat) (v : Value) (xs : List Value) : Prop :=
  (v = .slice none 0 0 ∧ xs = []) ∨ ∃ g cap, v = .slice (some ⟨g, 0, none⟩) xs.length cap ∧ base ≤ g ∧ g < w.heap.size ∧ xs.length ≤ cap ∧ (∀ j u, xs[j]? = some u → w.cell? ⟨g, j, none⟩ = some u) ∧ (∀ j, j < cap → (w.cell? ⟨g, j, none⟩).isSome = true ∧ w.frozen? ⟨g, j, none⟩ = false)
theorem Own.nil (w : World) (base : Nat) : Own w base (.slice none 0 0) [] := .inl ⟨rfl, rfl⟩
theorem Own.step {w w' : World} {base : Nat} {v : Value} {xs : List Value} (h : Own w base v xs) (hb : Below w.heap.size w w') : Own w' base v xs := by
  rcases h with h | ⟨g, cap, hv, h1, h2, h3, h4, h5⟩
  · exact .inl h
  · refine .inr ⟨g, cap, hv, h1, Nat.lt_of_lt_of_le h2 hb.size, h3, fun j u hj => ?_, fun j hj => ?_⟩
    · rw [hb.cell (p := ⟨g, j, none⟩) h2]; exact h4 j u hj
    · rw [hb.cell (p := ⟨g, j, none⟩) h2, hb.frozen (p := ⟨g, j, none⟩) h2]; exact h5 j hj
theorem Own.of_row {w : World} {base : Nat} {e : TypeId} {v : Value} {n : Nat} {xs : List Value} (h : w.ownsRow base e 1 v n xs) : Own w base v xs := by
  obtain ⟨hl, h⟩ := h
  have hl : xs.length = n := by simpa using hl
  rcases h with ⟨hv, hn⟩ | ⟨g, cap, cur, hv, hb, hg, hn, hm, hs, ht⟩
  · exact .inl ⟨hv, List.eq_nil_of_length_eq_zero (by omega)⟩
  · have hgl : g < w.heap.size := by
      rcases Nat.lt_or_ge g w.heap.size with h' | h'
      · exact h'
      · rw [Array.getElem?_eq_none h'] at hg; cases hg
    have hs : cur.size = cap := by simpa using hs
    have ht : cur.toList.take n = xs := by simpa using ht
    refine .inr ⟨g, cap, by rw [hv, hl], hb, hgl, by omega, fun j u hj => ?_, fun j hj => ?_⟩
    · rw [cell_of_row w g j cur e (0, 0) hg]
      have hjl : j < n := by rw [← hl]; exact (List.getElem?_eq_some_iff.1 hj).1
      rw [← ht, List.getElem?_take_of_lt hjl] at hj
      simpa using hj
    · rw [cell_of_row w g j cur e (0, 0) hg]
      refine ⟨by simp [hs, hj], by simp [World.frozen?, hg]⟩
theorem below_setCells {B : Nat} {a : World} (b : Nat) (hb : B ≤ b) : ∀ (vs : List Value) (o : Nat) (w : World), Below B a w → Below B a (w.setCells b o vs)
  | [], _, _, h => h
  | v :: vs, o, _, h => below_setCells b hb vs (o + 1) _ (h.setCell (p := ⟨b, o, none⟩) hb v)
theorem size_setCells (b : Nat) : ∀ (vs : List Value) (o : Nat) (w : World), (w.setCells b o vs).heap.size = w.heap.size
  | [], _, _ => rfl
  | v :: vs, o, w => by
    show ((w.setCell ⟨b, o, none⟩ v).setCells b (o + 1) vs).heap.size = _
    rw [size_setCells b vs (o + 1) _]; simp
theorem below_of_grown {w w' : World} (h : w.grownBy w' none) : Below w.heap.size w w' := ⟨h.os, h.tape, h.output, h.size, fun k hk => h.block k hk (by simp)⟩
theorem wpList_append_Own {P : Program} {w : World} {ops : Array Oper} {rest : List Oper} {o : Oper} {a : Act} {Q : Exit → Act → World → Prop} (hgd : o.guard = none) (s x : Operand) (t : TypeId)
    (ho : o.op = .call { callee := .builtin .append, args := #[s, x], argTypes := #[t, t] })
    (base : Nat) (e : TypeId) (i : TypeInfo) (z : Value) (bytes : Nat) (ht : P.underlying t = some (.slice e)) (hi : P.info? e = some i) (hz : i.zero = some z)
    (hsize : i.size = 1) (hby : i.bytes = bytes) (hzs : z.cells.size = 1)
    (v : Value) (xs : List Value) (hs : a.eval s = v) (hown : Own w base v xs)
    (ad : Addr) (m c : Nat) (news : List Value) (hx : a.eval x = .slice (some ad) m c) (hl : news.length = m) (hnews : ∀ j u, news[j]? = some u → w.cell? (ad.add j) = some u) (h1 : ∀ u ∈ news, u.oneCell' = true)
    (hm : 0 < m) (h63 : xs.length + m ≤ maxLen) (hbytes : (xs.length + m) * bytes ≤ 140737488355328) (hbase : base ≤ w.heap.size)
    (h : ∀ v' w', Own w' base v' (xs ++ news) → Below base w w' → wpList P ops Q rest (a.put o.dst v') w') : wpList P ops Q (o :: rest) a w := by
  rcases hown with ⟨hv, hxs⟩ | ⟨g, cap, hv, hb, hgl, hcap, hc, hsp⟩
  · subst hv; subst hxs
    refine wpList_append_grows w hgd s x t ho e i z 1 bytes ht hi hz hsize hby hzs (by decide) none 0 0 [] hs (fun _ => ⟨rfl, rfl⟩) (by simp) (fun _ h => by cases h) ad m c news hx (by rw [hl]; omega) hnews h1 (by omega) (by simpa using h63) (by simpa using hbytes) ?_
    intro v' w' h2 h3
    have h2' := Own.of_row h2
    refine h v' w' ?_ ((below_of_grown h3).mono hbase)
    rcases h2' with h4 | ⟨g, cap, q1, q2, q3, q4, q5, q6⟩
    · exact .inl h4
    · exact .inr ⟨g, cap, q1, Nat.le_trans hbase q2, q3, q4, q5, q6⟩
  · subst hv
    refine wpList_append_arg w hgd s x t ho e i z 1 bytes ht hi hz hsize hby hzs (by decide) g 0 xs.length cap xs hs (by omega) (fun j u hj => by rw [Nat.zero_add]; exact hc j u hj) ad m c news hx (by rw [hl]; omega) hnews h1 ?_ h63 hbytes ?_ ?_
    · intro hr j hj
      have := hsp (0 + xs.length * 1 + j) (by omega)
      exact this
    · intro hr
      refine h _ _ ?_ (below_setCells g hb _ _ _ (Below.refl _ _))
      refine .inr ⟨g, cap, by rw [List.length_append, hl], hb, by rw [size_setCells]; exact hgl, by rw [List.length_append, hl]; exact hr, fun j u hj => ?_, fun j hj => ?_⟩
      · rcases Nat.lt_or_ge j xs.length with hj' | hj'
        · rw [List.getElem?_append_left hj'] at hj
          rw [World.cell?_setCells_out g news _ w ⟨g, j, none⟩ (fun _ _ => by left; show j < _; omega)]
          exact hc j u hj
        · rw [List.getElem?_append_right hj'] at hj
          obtain ⟨hj2, hj3⟩ := List.getElem?_eq_some_iff.1 hj
          have := World.cell?_setCells_in g news (0 + xs.length * 1) w (fun j hj => (hsp _ (by omega)).1) (j - xs.length) hj2
          rw [show 0 + xs.length * 1 + (j - xs.length) = j by omega] at this
          rw [this, hj3]
      · rw [World.frozen?_setCells]
        refine ⟨?_, (hsp j hj).2⟩
        by_cases hj' : xs.length ≤ j ∧ j < xs.length + news.length
        · have := World.cell?_setCells_in g news (0 + xs.length * 1) w (fun j hj => (hsp _ (by omega)).1) (j - xs.length) (by omega)
          rw [show 0 + xs.length * 1 + (j - xs.length) = j by omega] at this
          rw [this]; rfl
        · rw [World.cell?_setCells_out g news _ w ⟨g, j, none⟩ (fun _ _ => by show j < _ ∨ _ ≤ j; omega)]
          exact (hsp j hj).1
    · intro hr v' w' h2 h3
      refine h v' w' ?_ ((below_of_grown h3).mono hbase)
      rcases Own.of_row h2 with h4 | ⟨g, cap, q1, q2, q3, q4, q5, q6⟩
      · exact .inl h4
      · exact .inr ⟨g, cap, q1, Nat.le_trans hbase q2, q3, q4, q5, q6⟩
def u8v (c : UInt8) : Value := .int .u8 (c.toNat : Int)
theorem bytesRow_size (s : ByteArray) (cap : Nat) (h : s.size ≤ cap) : (bytesRow s cap).size = cap := by
  have e : s.data.size = s.size := rfl
  simp [bytesRow, e]; omega
/-- What a text's conversion to bytes lays is one's own. -/
theorem Own.bytes (w : World) (s : ByteArray) (e : TypeId) (cap : Nat) (h : s.size ≤ cap) :
    Own (w.alloc (.cells (bytesRow s cap) e ((bytesRow s cap).size, (bytesRow s cap).size + 1))) w.heap.size (.slice (some ⟨w.heap.size, 0, none⟩) s.size cap) (s.data.toList.map u8v) := by
  have hl : (s.data.toList.map u8v).length = s.size := by simp
  refine .inr ⟨w.heap.size, cap, by rw [hl], Nat.le_refl _, by simp, by omega, fun j u hj => ?_, fun j hj => ?_⟩
  · rw [World.cell?_alloc_mark]
    have hj' : j < s.size := by rw [← hl]; exact (List.getElem?_eq_some_iff.1 hj).1
    have e : s.data.size = s.size := rfl
    rw [bytesRow, Array.getElem?_append_left (by simpa [e] using hj')]
    simpa [u8v] using hj
  · rw [World.cell?_alloc_mark, World.frozen?_alloc_mark, bytesRow_size s cap h]
    refine ⟨?_, by simp; omega⟩
    rw [← bytesRow_size s cap h] at hj
    simp [hj]
theorem Own.string {w : World} {base : Nat} {v : Value} {l : List UInt8} (h : Own w base v (l.map u8v)) (hl : 0 < l.length) :
    (convert 48 9 v).run Tryz.prog w = .ok (.string ⟨l.toArray⟩) w := by
  rcases h with ⟨_, h⟩ | ⟨g, cap, hv, _, _, _, hc, _⟩
  · rw [List.map_eq_nil_iff.1 h] at hl; cases hl
  · rw [hv, List.length_map]
    refine run_convert_bytes_back w 48 9 5 ⟨g, 0, none⟩ cap l Tryz.underlying48 Tryz.underlying5 Tryz.underlying9 (fun j hj => ?_)
    have := hc j (u8v l[j]) (by simp [List.getElem?_eq_getElem hj])
    rw [Addr.add_lit, Nat.zero_add]
    exact this
theorem u8Info : (Tryz.prog.info? 5).map (fun i => (i.zero, i.size, i.bytes)) = some (some (.int .u8 0), 1, 1) := by kernel_rfl
theorem cells_new1 (w : World) (a : Value) (t : TypeId) : ∀ j u, [a][j]? = some u → (w.alloc (.cells #[a] t)).cell? ((⟨w.heap.size, 0, none⟩ : Addr).add j) = some u := by
  intro j u hj
  match j, hj with
  | 0, hj => simp at hj; subst hj; simp [Addr.add]
theorem Own.form {w : World} {base : Nat} {v : Value} {xs : List Value} (h : Own w base v xs) (hx : xs ≠ []) : ∃ g cap, v = .slice (some ⟨g, 0, none⟩) xs.length cap := by
  rcases h with ⟨_, h⟩ | ⟨g, cap, hv, _⟩
  · exact absurd h hx
  · exact ⟨g, cap, hv⟩
/-- A slice of one's own, by what its elements mean. -/
def OwnL {α : Type} (enc : α → Value) (w : World) (base : Nat) (v : Value) (l : List α) : Prop := Own w base v (l.map enc)
theorem OwnL.step {α : Type} {enc : α → Value} {w w' : World} {base : Nat} {v : Value} {l : List α} (h : OwnL enc w base v l) (hb : Below w.heap.size w w') : OwnL enc w' base v l := Own.step h hb
/-- One element more. -/
theorem wpList_append_one {α : Type} (enc : α → Value) (henc : ∀ c, (enc c).oneCell' = true) {P : Program} {w : World} {ops : Array Oper} {rest : List Oper} {o : Oper} {a : Act} {Q : Exit → Act → World → Prop} (hgd : o.guard = none) (s x : Operand) (t : TypeId)
    (ho : o.op = .call { callee := .builtin .append, args := #[s, x], argTypes := #[t, t] })
    (base : Nat) (e : TypeId) (i : TypeInfo) (z : Value) (bytes : Nat) (ht : P.underlying t = some (.slice e)) (hi : P.info? e = some i) (hz : i.zero = some z)
    (hsize : i.size = 1) (hby : i.bytes = bytes) (hzs : z.cells.size = 1)
    (v : Value) (pre : List α) (T : Nat) (hT : pre.length = T) (c : α) (hs : a.eval s = v) (hown : OwnL enc w base v pre)
    (b : Nat) (hx : a.eval x = .slice (some ⟨b, 0, none⟩) 1 1) (hc : w.cell? ⟨b, 0, none⟩ = some (enc c))
    (hbytes : (T + 1) * bytes ≤ 140737488355328) (h8 : 1 ≤ bytes) (hbase : base ≤ w.heap.size)
    (h : ∀ g cap w', OwnL enc w' base (.slice (some ⟨g, 0, none⟩) (T + 1) cap) (pre ++ [c]) → Below base w w' → wpList P ops Q rest (a.put o.dst (.slice (some ⟨g, 0, none⟩) (T + 1) cap)) w') : wpList P ops Q (o :: rest) a w := by
  have hle : T + 1 ≤ (T + 1) * bytes := Nat.le_mul_of_pos_right _ h8
  refine wpList_append_Own hgd s x t ho base e i z bytes ht hi hz hsize hby hzs v _ hs hown ⟨b, 0, none⟩ 1 1 [enc c] hx rfl ?_ ?_ (by decide) (by rw [List.length_map, hT]; unfold maxLen; omega) (by rw [List.length_map, hT]; exact hbytes) hbase ?_
  · intro j u hj
    match j, hj with
    | 0, hj => simp at hj; subst hj; rw [Addr.add_lit]; exact hc
  · intro u hu; simp at hu; subst hu; exact henc c
  · intro v' w' h2 h3
    have e1 : pre.map enc ++ [enc c] = (pre ++ [c]).map enc := by simp
    rw [e1] at h2
    obtain ⟨g, cap, rfl⟩ := h2.form (by simp)
    have e2 : ((pre ++ [c]).map enc).length = T + 1 := by simp [hT]
    rw [e2] at h2 ⊢
    exact h g cap w' h2 h3
theorem u8v_one (c : UInt8) : (u8v c).oneCell' = true := rfl
end Go.Proofs.YtmodongnganbfaaGreatDoor.Sha
