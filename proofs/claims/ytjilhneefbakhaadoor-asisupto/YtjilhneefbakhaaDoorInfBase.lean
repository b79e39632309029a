/- The machine that reads a deflated text: what lies in memory, and its small steps. -/
import Derived.Test.YtjilhneefbakhaaDoorShaOwn
namespace Go.Proofs.YtjilhneefbakhaaDoor.Inf
open Go.RowKit Go.Proofs.YtjilhneefbakhaaDoor.Sha

/-- Is there a fault? -/
def errIs : Bool → Value → Prop
  | false, ev => ev = .nilIface
  | true, ev => ∃ x, ev = .iface 131 x
/-- The machine at block mb: its text, how many bits are taken, what has come, how much may, whether there is a fault. What has come lies at base or above. -/
structure MA (mb base : Nat) (s : ByteArray) (a b : Nat) (out : List UInt8) (most : Nat) (bad : Bool) (w : World) : Prop where
  c0 : w.cell? ⟨mb, 0, none⟩ = some (.string s)
  c1 : w.cell? ⟨mb, 1, none⟩ = some (.int .i64 (a : Int))
  c2 : w.cell? ⟨mb, 2, none⟩ = some (.int .i64 (b : Int))
  c3 : ∃ v, w.cell? ⟨mb, 3, none⟩ = some v ∧ OwnL u8v w base v out
  c4 : w.cell? ⟨mb, 4, none⟩ = some (.int .i64 (most : Int))
  c5 : ∃ ev, w.cell? ⟨mb, 5, none⟩ = some ev ∧ errIs bad ev
  fro : ∀ j, w.frozen? ⟨mb, j, none⟩ = false
  lt : mb < base
  bl : base ≤ w.heap.size
/-- The same, by how many bits are taken. -/
def MW (mb base : Nat) (s : ByteArray) (pos : Nat) (out : List UInt8) (most : Nat) (bad : Bool) (w : World) : Prop := MA mb base s (pos / 8) (pos % 8) out most bad w
/-- Block k is where what has come lies. -/
def outB (mb : Nat) (w : World) (k : Nat) : Prop := ∃ i n c, w.cell? ⟨mb, 3, none⟩ = some (.slice (some ⟨k, i, none⟩) n c)
/-- Nothing below base is turned but the machine; and of what there was, nothing but the machine and where what has come lies. -/
structure Kept (mb base : Nat) (w w' : World) : Prop where
  os : w'.os = w.os
  tape : w'.tape = w.tape
  output : w'.output = w.output
  size : w.heap.size ≤ w'.heap.size
  block : ∀ k, k < base → k ≠ mb → w'.heap[k]? = w.heap[k]?
  old : ∀ k, k < w.heap.size → k ≠ mb → ¬ outB mb w k → w'.heap[k]? = w.heap[k]?
  out : ∀ k, k < w.heap.size → outB mb w' k → outB mb w k
theorem Kept.refl (mb base : Nat) (w : World) : Kept mb base w w := ⟨rfl, rfl, rfl, Nat.le_refl _, fun _ _ _ => rfl, fun _ _ _ _ => rfl, fun _ _ h => h⟩
theorem Kept.trans {mb base : Nat} {a b c : World} (h : Kept mb base a b) (k : Kept mb base b c) : Kept mb base a c :=
  ⟨k.os.trans h.os, k.tape.trans h.tape, k.output.trans h.output, Nat.le_trans h.size k.size, fun i hi hn => (k.block i hi hn).trans (h.block i hi hn), fun i hi hn ho => (k.old i (Nat.lt_of_lt_of_le hi h.size) hn (fun hb => ho (h.out i hi hb))).trans (h.old i hi hn ho), fun i hi ho => h.out i hi (k.out i (Nat.lt_of_lt_of_le hi h.size) ho)⟩
theorem Kept.drew {mb base : Nat} {w : World} (n : Nat) : Kept mb base w (w.drewN n) := ⟨rfl, rfl, rfl, Nat.le_refl _, fun _ _ _ => rfl, fun _ _ _ _ => rfl, fun _ _ h => h⟩
theorem Kept.of_below {mb base : Nat} {w w' : World} (h : Below w.heap.size w w') (hb : base ≤ w.heap.size) (hl : mb < base) : Kept mb base w w' :=
  ⟨h.os, h.tape, h.output, h.size, fun k hk _ => h.block k (Nat.lt_of_lt_of_le hk hb), fun k hk _ _ => h.block k hk, fun k _ ⟨i, n, c, ho⟩ => ⟨i, n, c, by rw [← h.cell (p := ⟨mb, 3, none⟩) (Nat.lt_of_lt_of_le hl hb)]; exact ho⟩⟩
theorem Kept.set {mb base : Nat} (w : World) (j : Nat) (v : Value) (hj : j ≠ 3) : Kept mb base w (w.setCell ⟨mb, j, none⟩ v) :=
  ⟨rfl, rfl, rfl, by simp, fun k _ hn => Below.heap_setCell w ⟨mb, j, none⟩ v k hn, fun k _ hn _ => Below.heap_setCell w ⟨mb, j, none⟩ v k hn, fun k _ ⟨i, n, c, ho⟩ => ⟨i, n, c, by rw [World.cell?_setCell_other _ _ _ _ (by intro e; injection e with _ e1; exact hj e1)] at ho; exact ho⟩⟩
theorem MA.drew {mb base : Nat} {s : ByteArray} {a b : Nat} {out : List UInt8} {most : Nat} {bad : Bool} {w : World} (h : MA mb base s a b out most bad w) (n : Nat) : MA mb base s a b out most bad (w.drewN n) :=
  ⟨h.c0, h.c1, h.c2, h.c3, h.c4, h.c5, h.fro, h.lt, h.bl⟩
/-- A fact on a slice of one's own behind a store below it. -/
theorem own_set {w : World} {base mb j : Nat} {v u : Value} {out : List UInt8} (h : OwnL u8v w base v out) (hlt : mb < base) : OwnL u8v (w.setCell ⟨mb, j, none⟩ u) base v out := by
  rcases h with h | ⟨g, cap, q1, q2, q3, q4, q5, q6⟩
  · exact .inl h
  · refine .inr ⟨g, cap, q1, q2, by simpa using q3, q4, fun i u hi => ?_, fun i hi => ?_⟩
    · have hne : (⟨mb, j, none⟩ : Addr) ≠ ⟨g, i, none⟩ := by intro e; injection e with e1; omega
      rw [World.cell?_setCell_other _ _ _ _ hne]; exact q5 i u hi
    · have hne : (⟨mb, j, none⟩ : Addr) ≠ ⟨g, i, none⟩ := by intro e; injection e with e1; omega
      rw [World.cell?_setCell_other _ _ _ _ hne, World.frozen?_setCell]; exact q6 i hi
theorem set_ne {w : World} {mb i j : Nat} {u v : Value} (h : w.cell? ⟨mb, i, none⟩ = some v) (hne : j ≠ i) : (w.setCell ⟨mb, j, none⟩ u).cell? ⟨mb, i, none⟩ = some v := by
  rw [World.cell?_setCell_other _ _ _ _ (by intro e; injection e with _ e1; exact hne e1)]; exact h
section
variable {mb base : Nat} {s : ByteArray} {a b : Nat} {out : List UInt8} {most : Nat} {bad : Bool} {w : World}
theorem MA.setErr (h : MA mb base s a b out most bad w) (x : Value) : MA mb base s a b out most true (w.setCell ⟨mb, 5, none⟩ (.iface 131 x)) := by
  obtain ⟨v, hv, ho⟩ := h.c3
  obtain ⟨ev, he, _⟩ := h.c5
  exact ⟨set_ne h.c0 (by decide), set_ne h.c1 (by decide), set_ne h.c2 (by decide), ⟨v, set_ne hv (by decide), own_set ho h.lt⟩, set_ne h.c4 (by decide), ⟨_, World.cell?_setCell_same _ _ _ he, x, rfl⟩, fun j => by rw [World.frozen?_setCell]; exact h.fro j, h.lt, by simpa using h.bl⟩
theorem MA.setA (h : MA mb base s a b out most bad w) (z : Int) (a' : Nat) (hz : z = (a' : Int)) : MA mb base s a' b out most bad (w.setCell ⟨mb, 1, none⟩ (.int .i64 z)) := by
  obtain ⟨v, hv, ho⟩ := h.c3
  obtain ⟨ev, he, hb⟩ := h.c5
  subst hz
  exact ⟨set_ne h.c0 (by decide), World.cell?_setCell_same _ _ _ h.c1, set_ne h.c2 (by decide), ⟨v, set_ne hv (by decide), own_set ho h.lt⟩, set_ne h.c4 (by decide), ⟨_, set_ne he (by decide), hb⟩, fun j => by rw [World.frozen?_setCell]; exact h.fro j, h.lt, by simpa using h.bl⟩
theorem MA.setB (h : MA mb base s a b out most bad w) (z : Int) (b' : Nat) (hz : z = (b' : Int)) : MA mb base s a b' out most bad (w.setCell ⟨mb, 2, none⟩ (.int .i64 z)) := by
  obtain ⟨v, hv, ho⟩ := h.c3
  obtain ⟨ev, he, hb⟩ := h.c5
  subst hz
  exact ⟨set_ne h.c0 (by decide), set_ne h.c1 (by decide), World.cell?_setCell_same _ _ _ h.c2, ⟨v, set_ne hv (by decide), own_set ho h.lt⟩, set_ne h.c4 (by decide), ⟨_, set_ne he (by decide), hb⟩, fun j => by rw [World.frozen?_setCell]; exact h.fro j, h.lt, by simpa using h.bl⟩

theorem fail_walk (x : Value) (h : MA mb base s a b out most bad w) :
    Calls Tryd.prog 29 #[.pointer (some ⟨mb, 0, none⟩), .iface 131 x] w fun e w' => e = .returned (.tuple #[]) ∧ MA mb base s a b out most true w' ∧ Kept mb base w w' := by
  obtain ⟨ev, he, hb⟩ := h.c5
  have hf := h.fro 5
  cases bad with
  | true =>
    obtain ⟨y, rfl⟩ := hb
    go_enter Tryd.func29, Tryd.ntmps29
    go_wp2
    go_end0
    exact ⟨rfl, h, Kept.refl _ _ _⟩
  | false =>
    cases hb
    go_enter Tryd.func29, Tryd.ntmps29
    go_wp2
    go_end0
    exact ⟨rfl, h.setErr x, Kept.set _ _ _ (by decide)⟩
theorem toNextByte_walk (h : MA mb base s a b out most bad w) (ha : a ≤ 140737488355328) :
    Calls Tryd.prog 44 #[.pointer (some ⟨mb, 0, none⟩)] w fun e w' => e = .returned (.tuple #[]) ∧ MA mb base s (a + 1) 0 out most bad w' ∧ Kept mb base w w' := by
  have c1 := h.c1
  have c2 := h.c2
  have f1 := h.fro 1
  have f2 := h.fro 2
  have hN := (h.setA ((a : Int) + 1) (a + 1) (by omega)).setB 0 0 rfl
  go_enter Tryd.func44, Tryd.ntmps44
  go_wp2
  go_end0
  exact ⟨rfl, hN, (Kept.set _ _ _ (by decide)).trans (Kept.set _ _ _ (by decide))⟩
/-- Bit p of a text. -/
def bitAt (s : ByteArray) (p : Nat) : Nat := (s.data.toList.getD (p / 8) 0).toNat / 2 ^ (p % 8) % 2
/-- The errors that the machine may tell. -/
structure DefW (w : World) : Prop where
  short : ∃ x, w.cell? ⟨28, 0, none⟩ = some (.iface 131 x)
  long : ∃ x, w.cell? ⟨29, 0, none⟩ = some (.iface 131 x)
  behind : ∃ x, w.cell? ⟨27, 0, none⟩ = some (.iface 131 x)
  stored : ∃ x, w.cell? ⟨18, 0, none⟩ = some (.iface 131 x)
  kind : ∃ x, w.cell? ⟨16, 0, none⟩ = some (.iface 131 x)
  code : ∃ x, w.cell? ⟨19, 0, none⟩ = some (.iface 131 x)
  many : ∃ x, w.cell? ⟨24, 0, none⟩ = some (.iface 131 x)
  lengths : ∃ x, w.cell? ⟨26, 0, none⟩ = some (.iface 131 x)
  noEnd : ∃ x, w.cell? ⟨25, 0, none⟩ = some (.iface 131 x)
  rep : ∃ x, w.cell? ⟨32, 0, none⟩ = some (.iface 131 x)
  dist : ∃ x, w.cell? ⟨30, 0, none⟩ = some (.iface 131 x)
theorem Kept.cell {w w' : World} (h : Kept mb base w w') {p : Addr} (hp : p.block < base) (hn : p.block ≠ mb) : w'.cell? p = w.cell? p := World.cell?_of_block (w := w) (h.block p.block hp hn)
theorem Kept.glob {w w' : World} (h : Kept mb base w w') (hg : 33 ≤ mb) (hlt : mb < base) (g : Nat) (hgg : g < 33) : w'.cell? ⟨g, 0, none⟩ = w.cell? ⟨g, 0, none⟩ :=
  h.cell (p := ⟨g, 0, none⟩) (show g < base by omega) (show g ≠ mb by omega)
theorem DefW.kept {w w' : World} (h : DefW w) (hk : Kept mb base w w') (hg : 33 ≤ mb) (hlt : mb < base) : DefW w' := by
  obtain ⟨⟨x1, h1⟩, ⟨x2, h2⟩, ⟨x3, h3⟩, ⟨x4, h4⟩, ⟨x5, h5⟩, ⟨x6, h6⟩, ⟨x7, h7⟩, ⟨x8, h8⟩, ⟨x9, h9⟩, ⟨x10, h10⟩, ⟨x11, h11⟩⟩ := h
  refine ⟨⟨x1, ?_⟩, ⟨x2, ?_⟩, ⟨x3, ?_⟩, ⟨x4, ?_⟩, ⟨x5, ?_⟩, ⟨x6, ?_⟩, ⟨x7, ?_⟩, ⟨x8, ?_⟩, ⟨x9, ?_⟩, ⟨x10, ?_⟩, ⟨x11, ?_⟩⟩
  · rw [hk.glob hg hlt _ (by decide)]; exact h1
  · rw [hk.glob hg hlt _ (by decide)]; exact h2
  · rw [hk.glob hg hlt _ (by decide)]; exact h3
  · rw [hk.glob hg hlt _ (by decide)]; exact h4
  · rw [hk.glob hg hlt _ (by decide)]; exact h5
  · rw [hk.glob hg hlt _ (by decide)]; exact h6
  · rw [hk.glob hg hlt _ (by decide)]; exact h7
  · rw [hk.glob hg hlt _ (by decide)]; exact h8
  · rw [hk.glob hg hlt _ (by decide)]; exact h9
  · rw [hk.glob hg hlt _ (by decide)]; exact h10
  · rw [hk.glob hg hlt _ (by decide)]; exact h11
end
end Go.Proofs.YtjilhneefbakhaaDoor.Inf
