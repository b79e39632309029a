/- One element more onto a slice of one's own: what else is turned: nothing but the slice's own block. -/
import Derived.Test.YtjilhneefbakhaaDoorShaOwn
namespace Go.Proofs.YtjilhneefbakhaaDoor.Sha
open Go.RowKit

theorem heap_setCells (b : Nat) (k : Nat) (hk : k ≠ b) : ∀ (vs : List Value) (o : Nat) (w : World), (w.setCells b o vs).heap[k]? = w.heap[k]?
  | [], _, _ => rfl
  | v :: vs, o, w => by
    show ((w.setCell ⟨b, o, none⟩ v).setCells b (o + 1) vs).heap[k]? = _
    rw [heap_setCells b k hk vs (o + 1) _]
    exact Below.heap_setCell w ⟨b, o, none⟩ v k hk
/-- What an append turns besides its slice. -/
def Apt (w w' : World) (v v' : Value) : Prop := (∀ k, k < w.heap.size → (∀ n c, v ≠ .slice (some ⟨k, 0, none⟩) n c) → w'.heap[k]? = w.heap[k]?) ∧ (∀ g n c, v' = .slice (some ⟨g, 0, none⟩) n c → g < w.heap.size → ∃ n c, v = .slice (some ⟨g, 0, none⟩) n c)
theorem wpList_append_Own2 {P : Program} {w : World} {ops : Array Oper} {rest : List Oper} {o : Oper} {a : Act} {Q : Exit → Act → World → Prop} (hgd : o.guard = none) (s x : Operand) (t : TypeId)
    (ho : o.op = .call { callee := .builtin .append, args := #[s, x], argTypes := #[t, t] })
    (base : Nat) (e : TypeId) (i : TypeInfo) (z : Value) (bytes : Nat) (ht : P.underlying t = some (.slice e)) (hi : P.info? e = some i) (hz : i.zero = some z)
    (hsize : i.size = 1) (hby : i.bytes = bytes) (hzs : z.cells.size = 1)
    (v : Value) (xs : List Value) (hs : a.eval s = v) (hown : Own w base v xs)
    (ad : Addr) (m c : Nat) (news : List Value) (hx : a.eval x = .slice (some ad) m c) (hl : news.length = m) (hnews : ∀ j u, news[j]? = some u → w.cell? (ad.add j) = some u) (h1 : ∀ u ∈ news, u.oneCell' = true)
    (hm : 0 < m) (h63 : xs.length + m ≤ maxLen) (hbytes : (xs.length + m) * bytes ≤ 140737488355328) (hbase : base ≤ w.heap.size)
    (h : ∀ v' w', Own w' base v' (xs ++ news) → Below base w w' → Apt w w' v v' → wpList P ops Q rest (a.put o.dst v') w') : wpList P ops Q (o :: rest) a w := by
  have grown : ∀ v' w', Own w' w.heap.size v' (xs ++ news) → Below w.heap.size w w' → Apt w w' v v' := by
    intro v' w' h2 hB
    refine ⟨fun k hk _ => hB.block k hk, fun g n c hv hg => ?_⟩
    rcases h2 with ⟨h4, _⟩ | ⟨g', cap, q1, q2, _⟩
    · rw [h4] at hv; cases hv
    · rw [q1] at hv; cases hv; omega
  rcases hown with ⟨hv, hxs⟩ | ⟨g, cap, hv, hb, hgl, hcap, hc, hsp⟩
  · subst hv; subst hxs
    refine wpList_append_grows w hgd s x t ho e i z 1 bytes ht hi hz hsize hby hzs (by decide) none 0 0 [] hs (fun _ => ⟨rfl, rfl⟩) (by simp) (fun _ h => by cases h) ad m c news hx (by rw [hl]; omega) hnews h1 (by omega) (by simpa using h63) (by simpa using hbytes) ?_
    intro v' w' h2 h3
    have h2' := Own.of_row h2
    refine h v' w' ?_ ((below_of_grown h3).mono hbase) (grown v' w' h2' (below_of_grown h3))
    rcases h2' with h4 | ⟨g, cap, q1, q2, q3, q4, q5, q6⟩
    · exact .inl h4
    · exact .inr ⟨g, cap, q1, Nat.le_trans hbase q2, q3, q4, q5, q6⟩
  · subst hv
    refine wpList_append_arg w hgd s x t ho e i z 1 bytes ht hi hz hsize hby hzs (by decide) g 0 xs.length cap xs hs (by omega) (fun j u hj => by rw [Nat.zero_add]; exact hc j u hj) ad m c news hx (by rw [hl]; omega) hnews h1 ?_ h63 hbytes ?_ ?_
    · intro hr j hj
      have := hsp (0 + xs.length * 1 + j) (by omega)
      exact this
    · intro hr
      refine h _ _ ?_ (below_setCells g hb _ _ _ (Below.refl _ _)) ⟨fun k _ hn => heap_setCells g k (fun he => hn xs.length cap (by subst he; rfl)) _ _ _, fun g' n c hv _ => (by cases hv; exact ⟨_, _, rfl⟩)⟩
      refine .inr ⟨g, cap, by rw [List.length_append, hl], hb, by rw [size_setCells]; exact hgl, by rw [List.length_append, hl]; exact hr, fun j u hj => ?_, fun j hj => ?_⟩
      · rcases Nat.lt_or_ge j xs.length with hj' | hj'
        · rw [List.getElem?_append_left hj'] at hj
          rw [World.cell?_setCells_out g news _ w ⟨g, j, none⟩ (fun _ _ => by left; show j < _; omega)]
          exact hc j u hj
        · rw [List.getElem?_append_right hj'] at hj
          obtain ⟨hj2, hj3⟩ := List.getElem?_eq_some_iff.1 hj
          have := World.cell?_setCells_in g news (0 + xs.length * 1) w (fun j hj => (hsp _ (by omega)).1) (j - xs.length) hj2
          rw [show 0 + xs.length * 1 + (j - xs.length) = j by omega] at this
          rw [this, hj3]
      · rw [World.frozen?_setCells]
        refine ⟨?_, (hsp j hj).2⟩
        by_cases hj' : xs.length ≤ j ∧ j < xs.length + news.length
        · have := World.cell?_setCells_in g news (0 + xs.length * 1) w (fun j hj => (hsp _ (by omega)).1) (j - xs.length) (by omega)
          rw [show 0 + xs.length * 1 + (j - xs.length) = j by omega] at this
          rw [this]; rfl
        · rw [World.cell?_setCells_out g news _ w ⟨g, j, none⟩ (fun _ _ => by show j < _ ∨ _ ≤ j; omega)]
          exact (hsp j hj).1
    · intro hr v' w' h2 h3
      refine h v' w' ?_ ((below_of_grown h3).mono hbase) (grown v' w' (Own.of_row h2) (below_of_grown h3))
      rcases Own.of_row h2 with h4 | ⟨g, cap, q1, q2, q3, q4, q5, q6⟩
      · exact .inl h4
      · exact .inr ⟨g, cap, q1, Nat.le_trans hbase q2, q3, q4, q5, q6⟩
/-- One element more. -/
theorem wpList_append_one2 {α : Type} (enc : α → Value) (henc : ∀ c, (enc c).oneCell' = true) {P : Program} {w : World} {ops : Array Oper} {rest : List Oper} {o : Oper} {a : Act} {Q : Exit → Act → World → Prop} (hgd : o.guard = none) (s x : Operand) (t : TypeId)
    (ho : o.op = .call { callee := .builtin .append, args := #[s, x], argTypes := #[t, t] })
    (base : Nat) (e : TypeId) (i : TypeInfo) (z : Value) (bytes : Nat) (ht : P.underlying t = some (.slice e)) (hi : P.info? e = some i) (hz : i.zero = some z)
    (hsize : i.size = 1) (hby : i.bytes = bytes) (hzs : z.cells.size = 1)
    (v : Value) (pre : List α) (T : Nat) (hT : pre.length = T) (c : α) (hs : a.eval s = v) (hown : OwnL enc w base v pre)
    (b : Nat) (hx : a.eval x = .slice (some ⟨b, 0, none⟩) 1 1) (hc : w.cell? ⟨b, 0, none⟩ = some (enc c))
    (hbytes : (T + 1) * bytes ≤ 140737488355328) (h8 : 1 ≤ bytes) (hbase : base ≤ w.heap.size)
    (h : ∀ g cap w', OwnL enc w' base (.slice (some ⟨g, 0, none⟩) (T + 1) cap) (pre ++ [c]) → Below base w w' → Apt w w' v (.slice (some ⟨g, 0, none⟩) (T + 1) cap) → wpList P ops Q rest (a.put o.dst (.slice (some ⟨g, 0, none⟩) (T + 1) cap)) w') : wpList P ops Q (o :: rest) a w := by
  have hle : T + 1 ≤ (T + 1) * bytes := Nat.le_mul_of_pos_right _ h8
  refine wpList_append_Own2 hgd s x t ho base e i z bytes ht hi hz hsize hby hzs v _ hs hown ⟨b, 0, none⟩ 1 1 [enc c] hx rfl ?_ ?_ (by decide) (by rw [List.length_map, hT]; unfold maxLen; omega) (by rw [List.length_map, hT]; exact hbytes) hbase ?_
  · intro j u hj
    match j, hj with
    | 0, hj => simp at hj; subst hj; rw [Addr.add_lit]; exact hc
  · intro u hu; simp at hu; subst hu; exact henc c
  · intro v' w' h2 h3 h4
    have e1 : pre.map enc ++ [enc c] = (pre ++ [c]).map enc := by simp
    rw [e1] at h2
    obtain ⟨g, cap, rfl⟩ := h2.form (by simp)
    have e2 : ((pre ++ [c]).map enc).length = T + 1 := by simp [hT]
    rw [e2] at h2 h4 ⊢
    exact h g cap w' h2 h3 h4
/-- A slice of one's own whose elements have k cells each. -/
def OwnK (k : Nat) (w : World) (base : Nat) (v : Value) (n : Nat) (xs : List Value) : Prop :=
  xs.length = n * k ∧ ((v = .slice none 0 0 ∧ n = 0) ∨ ∃ g cap, v = .slice (some ⟨g, 0, none⟩) n cap ∧ base ≤ g ∧ g < w.heap.size ∧ n ≤ cap ∧ (∀ j u, xs[j]? = some u → w.cell? ⟨g, j, none⟩ = some u) ∧ (∀ j, j < cap * k → (w.cell? ⟨g, j, none⟩).isSome = true ∧ w.frozen? ⟨g, j, none⟩ = false))
theorem OwnK.nil (k : Nat) (w : World) (base : Nat) : OwnK k w base (.slice none 0 0) 0 [] := ⟨by simp, .inl ⟨rfl, rfl⟩⟩
theorem OwnK.step {k : Nat} {w w' : World} {base : Nat} {v : Value} {n : Nat} {xs : List Value} (h : OwnK k w base v n xs) (hb : Below w.heap.size w w') : OwnK k w' base v n xs := by
  refine ⟨h.1, ?_⟩
  rcases h.2 with h | ⟨g, cap, hv, h1, h2, h3, h4, h5⟩
  · exact .inl h
  · refine .inr ⟨g, cap, hv, h1, Nat.lt_of_lt_of_le h2 hb.size, h3, fun j u hj => ?_, fun j hj => ?_⟩
    · rw [hb.cell (p := ⟨g, j, none⟩) h2]; exact h4 j u hj
    · rw [hb.cell (p := ⟨g, j, none⟩) h2, hb.frozen (p := ⟨g, j, none⟩) h2]; exact h5 j hj
theorem OwnK.mono {k : Nat} {w : World} {base base' : Nat} {v : Value} {n : Nat} {xs : List Value} (h : OwnK k w base v n xs) (hb : base' ≤ base) : OwnK k w base' v n xs := by
  refine ⟨h.1, ?_⟩
  rcases h.2 with h | ⟨g, cap, hv, h1, h2⟩
  · exact .inl h
  · exact .inr ⟨g, cap, hv, Nat.le_trans hb h1, h2⟩
theorem OwnK.of_row {k : Nat} {w : World} {base : Nat} {e : TypeId} {v : Value} {n : Nat} {xs : List Value} (h : w.ownsRow base e k v n xs) : OwnK k w base v n xs := by
  obtain ⟨hl, h⟩ := h
  refine ⟨hl, ?_⟩
  rcases h with ⟨hv, hn⟩ | ⟨g, cap, cur, hv, hb, hg, hn, hm, hs, ht⟩
  · exact .inl ⟨hv, hn⟩
  · have hgl : g < w.heap.size := by
      rcases Nat.lt_or_ge g w.heap.size with h' | h'
      · exact h'
      · rw [Array.getElem?_eq_none h'] at hg; cases hg
    refine .inr ⟨g, cap, hv, hb, hgl, hn, fun j u hj => ?_, fun j hj => ?_⟩
    · rw [cell_of_row w g j cur e (0, 0) hg]
      have hjl : j < n * k := by rw [← hl]; exact (List.getElem?_eq_some_iff.1 hj).1
      rw [← ht, List.getElem?_take_of_lt hjl] at hj
      simpa using hj
    · rw [cell_of_row w g j cur e (0, 0) hg]
      refine ⟨by simp [hs, hj], by simp [World.frozen?, hg]⟩
/-- One element more, of k cells. -/
theorem wpList_append_K {P : Program} {w : World} {ops : Array Oper} {rest : List Oper} {o : Oper} {a : Act} {Q : Exit → Act → World → Prop} (hgd : o.guard = none) (s x : Operand) (t : TypeId)
    (ho : o.op = .call { callee := .builtin .append, args := #[s, x], argTypes := #[t, t] }) (k : Nat) (hk : 0 < k)
    (base : Nat) (e : TypeId) (i : TypeInfo) (z : Value) (bytes : Nat) (ht : P.underlying t = some (.slice e)) (hi : P.info? e = some i) (hz : i.zero = some z)
    (hsize : i.size = k) (hby : i.bytes = bytes) (hzs : z.cells.size = k)
    (v : Value) (n : Nat) (xs : List Value) (hs : a.eval s = v) (hown : OwnK k w base v n xs)
    (ad : Addr) (c : Nat) (news : List Value) (hx : a.eval x = .slice (some ad) 1 c) (hl : news.length = k) (hnews : ∀ j u, news[j]? = some u → w.cell? (ad.add j) = some u) (h1 : ∀ u ∈ news, u.oneCell' = true)
    (h63 : n + 1 ≤ maxLen) (hbytes : (n + 1) * bytes ≤ 140737488355328) (hbase : base ≤ w.heap.size)
    (h : ∀ g cap w', OwnK k w' base (.slice (some ⟨g, 0, none⟩) (n + 1) cap) (n + 1) (xs ++ news) → Below base w w' → wpList P ops Q rest (a.put o.dst (.slice (some ⟨g, 0, none⟩) (n + 1) cap)) w') : wpList P ops Q (o :: rest) a w := by
  have fin : ∀ v' w', OwnK k w' w.heap.size v' (n + 1) (xs ++ news) → Below w.heap.size w w' → wpList P ops Q rest (a.put o.dst v') w' := by
    intro v' w' h2 hB
    have h3 := h2.2
    rcases h3 with ⟨_, h3⟩ | ⟨g, cap, rfl, _⟩
    · omega
    · exact h g cap w' (h2.mono hbase) (hB.mono hbase)
  obtain ⟨hlen, hown⟩ := hown
  rcases hown with ⟨hv, hn0⟩ | ⟨g, cap, hv, hb, hgl, hcap, hc, hsp⟩
  · subst hv; subst hn0
    have hxs : xs = [] := List.eq_nil_of_length_eq_zero (by simpa using hlen)
    subst hxs
    refine wpList_append_grows w hgd s x t ho e i z k bytes ht hi hz hsize hby hzs hk none 0 0 [] hs (fun _ => ⟨rfl, rfl⟩) (by simp) (fun _ h => by cases h) ad 1 c news hx (by rw [hl]; omega) hnews h1 (by omega) (by simpa using h63) (by simpa using hbytes) ?_
    intro v' w' h2 h3
    exact fin v' w' (OwnK.of_row h2) (below_of_grown h3)
  · subst hv
    have hnk : n * k + k = (n + 1) * k := by rw [Nat.add_mul, Nat.one_mul]
    refine wpList_append_arg w hgd s x t ho e i z k bytes ht hi hz hsize hby hzs hk g 0 n cap xs hs hlen (fun j u hj => by rw [Nat.zero_add]; exact hc j u hj) ad 1 c news hx (by rw [hl]; omega) hnews h1 ?_ h63 hbytes ?_ ?_
    · intro hr j hj
      have h5 : (n + 1) * k ≤ cap * k := Nat.mul_le_mul_right _ hr
      have := hsp (0 + n * k + j) (by omega)
      exact this
    · intro hr
      have h5 : (n + 1) * k ≤ cap * k := Nat.mul_le_mul_right _ hr
      refine h _ _ _ ⟨by rw [List.length_append, hlen, hl]; omega, ?_⟩ (below_setCells g hb _ _ _ (Below.refl _ _))
      refine .inr ⟨g, cap, rfl, hb, by rw [size_setCells]; exact hgl, hr, fun j u hj => ?_, fun j hj => ?_⟩
      · rcases Nat.lt_or_ge j xs.length with hj' | hj'
        · rw [List.getElem?_append_left hj'] at hj
          rw [World.cell?_setCells_out g news _ w ⟨g, j, none⟩ (fun _ _ => by left; show j < _; omega)]
          exact hc j u hj
        · rw [List.getElem?_append_right hj'] at hj
          obtain ⟨hj2, hj3⟩ := List.getElem?_eq_some_iff.1 hj
          have := World.cell?_setCells_in g news (0 + n * k) w (fun j hj => (hsp _ (by omega)).1) (j - xs.length) hj2
          rw [show 0 + n * k + (j - xs.length) = j by omega] at this
          rw [this, hj3]
      · rw [World.frozen?_setCells]
        refine ⟨?_, (hsp j hj).2⟩
        by_cases hj' : n * k ≤ j ∧ j < n * k + news.length
        · have := World.cell?_setCells_in g news (0 + n * k) w (fun j hj => (hsp _ (by omega)).1) (j - n * k) (by omega)
          rw [show 0 + n * k + (j - n * k) = j by omega] at this
          rw [this]; rfl
        · rw [World.cell?_setCells_out g news _ w ⟨g, j, none⟩ (fun _ _ => by show j < _ ∨ _ ≤ j; omega)]
          exact (hsp j hj).1
    · intro hr v' w' h2 h3
      exact fin v' w' (OwnK.of_row h2) (below_of_grown h3)
end Go.Proofs.YtjilhneefbakhaaDoor.Sha
