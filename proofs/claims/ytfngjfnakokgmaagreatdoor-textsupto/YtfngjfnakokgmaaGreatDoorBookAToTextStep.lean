/- satchellaw's Book: what lies in memory, and a law for append that tells what was turned. -/
import Derived.Test.YtfngjfnakokgmaaGreatDoorRLMathToRLList
import Derived.ProofKit
import Derived.Test.YtfngjfnakokgmaaGreatDoorBaseToShaOwn
import Derived.BigQuiet
import Derived.Deep.QuietTactic
namespace Go.Proofs.YtfngjfnakokgmaaGreatDoor.Bk
open Go.RowKit Go.Proofs.YtfngjfnakokgmaaGreatDoor.Sha Go.Proofs.YtfngjfnakokgmaaGreatDoor
/-- What an append turned: cells of the slice's own block, to the values that came; or nothing of what was there. -/
def Turned (w w' : World) (v v' : Value) (news : List Value) : Prop :=
  (∃ g o n cap, v = .slice (some ⟨g, 0, none⟩) n cap ∧ v'.ownBlock = some g ∧ w' = w.setCells g o news) ∨ (Below w.heap.size w w' ∧ ∀ g, v'.ownBlock = some g → w.heap.size ≤ g)
theorem own_block_ge {w : World} {base : Nat} {v : Value} {xs : List Value} (h : Own w base v xs) : ∀ g, v.ownBlock = some g → base ≤ g := by
  intro g hg
  rcases h with ⟨rfl, _⟩ | ⟨g', cap, rfl, hb, _⟩
  · cases hg
  · simp only [Value.ownBlock, Option.some.injEq] at hg
    omega
theorem wpList_append_T {P : Program} {w : World} {ops : Array Oper} {rest : List Oper} {o : Oper} {a : Act} {Q : Exit → Act → World → Prop} (hgd : o.guard = none) (s x : Operand) (t : TypeId)
    (ho : o.op = .call { callee := .builtin .append, args := #[s, x], argTypes := #[t, t] })
    (e : TypeId) (i : TypeInfo) (z : Value) (bytes : Nat) (ht : P.underlying t = some (.slice e)) (hi : P.info? e = some i) (hz : i.zero = some z)
    (hsize : i.size = 1) (hby : i.bytes = bytes) (hzs : z.cells.size = 1)
    (v : Value) (xs : List Value) (hs : a.eval s = v) (hown : Own w 0 v xs)
    (ad : Addr) (m c : Nat) (news : List Value) (hx : a.eval x = .slice (some ad) m c) (hl : news.length = m) (hnews : ∀ j u, news[j]? = some u → w.cell? (ad.add j) = some u) (h1 : ∀ u ∈ news, u.oneCell' = true)
    (hm : 0 < m) (h63 : xs.length + m ≤ maxLen) (hbytes : (xs.length + m) * bytes ≤ 140737488355328)
    (h : ∀ v' w', Own w' 0 v' (xs ++ news) → Turned w w' v v' news → wpList P ops Q rest (a.put o.dst v') w') : wpList P ops Q (o :: rest) a w := by
  rcases hown with ⟨hv, hxs⟩ | ⟨g, cap, hv, hb, hgl, hcap, hc, hsp⟩
  · subst hv; subst hxs
    refine wpList_append_grows w hgd s x t ho e i z 1 bytes ht hi hz hsize hby hzs (by decide) none 0 0 [] hs (fun _ => ⟨rfl, rfl⟩) (by simp) (fun _ h => by cases h) ad m c news hx (by rw [hl]; omega) hnews h1 (by omega) (by simpa using h63) (by simpa using hbytes) ?_
    intro v' w' h2 h3
    have h2' := Own.of_row h2
    exact h v' w' (own_mono h2' (Nat.zero_le _)) (.inr ⟨below_of_grown h3, own_block_ge h2'⟩)
  · subst hv
    refine wpList_append_arg w hgd s x t ho e i z 1 bytes ht hi hz hsize hby hzs (by decide) g 0 xs.length cap xs hs (by omega) (fun j u hj => by rw [Nat.zero_add]; exact hc j u hj) ad m c news hx (by rw [hl]; omega) hnews h1 ?_ h63 hbytes ?_ ?_
    · intro hr j hj
      have := hsp (0 + xs.length * 1 + j) (by omega)
      exact this
    · intro hr
      refine h _ _ ?_ (.inl ⟨g, _, _, cap, rfl, rfl, rfl⟩)
      refine .inr ⟨g, cap, by rw [List.length_append, hl], hb, by rw [size_setCells]; exact hgl, by rw [List.length_append, hl]; exact hr, fun j u hj => ?_, fun j hj => ?_⟩
      · rcases Nat.lt_or_ge j xs.length with hj' | hj'
        · rw [List.getElem?_append_left hj'] at hj
          rw [World.cell?_setCells_out g news _ w ⟨g, j, none⟩ (fun _ _ => by left; show j < _; omega)]
          exact hc j u hj
        · rw [List.getElem?_append_right hj'] at hj
          obtain ⟨hj2, hj3⟩ := List.getElem?_eq_some_iff.1 hj
          have := World.cell?_setCells_in g news (0 + xs.length * 1) w (fun j hj => (hsp _ (by omega)).1) (j - xs.length) hj2
          rw [show 0 + xs.length * 1 + (j - xs.length) = j by omega] at this
          rw [this, hj3]
      · rw [World.frozen?_setCells]
        refine ⟨?_, (hsp j hj).2⟩
        by_cases hj' : xs.length ≤ j ∧ j < xs.length + news.length
        · have := World.cell?_setCells_in g news (0 + xs.length * 1) w (fun j hj => (hsp _ (by omega)).1) (j - xs.length) (by omega)
          rw [show 0 + xs.length * 1 + (j - xs.length) = j by omega] at this
          rw [this]; rfl
        · rw [World.cell?_setCells_out g news _ w ⟨g, j, none⟩ (fun _ _ => by show j < _ ∨ _ ≤ j; omega)]
          exact (hsp j hj).1
    · intro hr v' w' h2 h3
      have h2' := Own.of_row h2
      exact h v' w' (own_mono h2' (Nat.zero_le _)) (.inr ⟨below_of_grown h3, own_block_ge h2'⟩)
/-- A slice of texts, each of them m. -/
def RM (m : ByteArray) (v : Value) (w : World) : Prop := ∃ ao n cap, v = .slice ao n cap ∧ n ≤ 1048580 ∧ (0 < n → ∃ g, ao = some ⟨g, 0, none⟩ ∧ g < w.heap.size ∧ n ≤ cap ∧ ∀ j, j < n → w.cell? ⟨g, j, none⟩ = some (.string m))
/-- In w' each cell of a text that was m is m still. -/
structure Keeps (m : ByteArray) (w w' : World) : Prop where
  size : w.heap.size ≤ w'.heap.size
  cell : ∀ g j, g < w.heap.size → w.cell? ⟨g, j, none⟩ = some (.string m) → w'.cell? ⟨g, j, none⟩ = some (.string m)
theorem Keeps.refl (m : ByteArray) (w : World) : Keeps m w w := ⟨Nat.le_refl _, fun _ _ _ h => h⟩
theorem Keeps.trans {m : ByteArray} {a b c : World} (h : Keeps m a b) (k : Keeps m b c) : Keeps m a c := ⟨Nat.le_trans h.size k.size, fun g j hg hc => k.cell g j (Nat.lt_of_lt_of_le hg h.size) (h.cell g j hg hc)⟩
theorem Keeps.below (m : ByteArray) {w w' : World} (h : Below w.heap.size w w') : Keeps m w w' := ⟨h.size, fun g j hg hc => by rw [h.cell (p := ⟨g, j, none⟩) hg]; exact hc⟩
theorem RM.keeps {m : ByteArray} {v : Value} {w w' : World} (h : RM m v w) (hk : Keeps m w w') : RM m v w' := by
  obtain ⟨ao, n, cap, e, hn, h⟩ := h
  refine ⟨ao, n, cap, e, hn, fun hp => ?_⟩
  obtain ⟨g, e1, e2, e3, e4⟩ := h hp
  exact ⟨g, e1, Nat.lt_of_lt_of_le e2 hk.size, e3, fun j hj => hk.cell g j e2 (e4 j hj)⟩
theorem cell_set_same {w : World} {a b : Addr} {u v : Value} (h : w.cell? a = some v) : (w.setCell b u).cell? a = some v ∨ (a = b ∧ (w.setCell b u).cell? a = some u) := by
  by_cases e : b = a
  · subst e; exact .inr ⟨rfl, World.cell?_setCell_same _ _ _ h⟩
  · left; rw [World.cell?_setCell_other _ _ _ _ e]; exact h
theorem Keeps.set (m : ByteArray) (w : World) (b : Addr) : Keeps m w (w.setCell b (.string m)) := ⟨by simp, fun g j hg hc => by
  rcases cell_set_same (b := b) (u := .string m) hc with h | ⟨_, h⟩
  · exact h
  · exact h⟩
theorem Keeps.other (m : ByteArray) (w : World) (b : Addr) (u : Value) (h : w.cell? b ≠ some (.string m)) : Keeps m w (w.setCell b u) := ⟨by simp, fun g j hg hc => by
  rcases cell_set_same (b := b) (u := u) hc with h2 | ⟨e, _⟩
  · exact h2
  · rw [e] at hc; exact absurd hc h⟩
end Go.Proofs.YtfngjfnakokgmaaGreatDoor.Bk
/- Texts about versions (P7), plainly, on lists of bytes: what the program's reader and the document's own functions are both held against. Each function takes what is left of the text and tells what it read and what is left behind it; none: the text is refused. No program. -/
namespace Go.Proofs.YtfngjfnakokgmaaGreatDoor.Txt

abbrev Bytes := List UInt8
def isBlank (c : UInt8) : Bool := c == 32 || c == 9 || c == 10 || c == 13
def isDigit (c : UInt8) : Bool := decide (48 ≤ c.toNat) && decide (c.toNat ≤ 57)
def isPlain (c : UInt8) : Bool := decide (32 ≤ c.toNat) && decide (c.toNat ≤ 126) && c != 34 && c != 92
/-- What a byte means behind a backslash; 0: nothing. -/
def meant (c : UInt8) : UInt8 := if c == 34 || c == 92 || c == 47 then c else if c == 110 then 10 else if c == 116 then 9 else 0
/-- What is left behind the blanks. -/
def skip (l : Bytes) : Bytes := l.dropWhile isBlank
/-- The bytes of a string up to the mark that ends it. -/
def chars : Bytes → Option (Bytes × Bytes)
  | [] => none
  | c :: l =>
    if c = 34 then some ([], l)
    else if c = 92 then
      match l with
      | [] => none
      | d :: r => if meant d = 0 then none else (chars r).map fun p => (meant d :: p.1, p.2)
    else if isPlain c then (chars l).map fun p => (c :: p.1, p.2)
    else none
def quoted : Bytes → Option (Bytes × Bytes)
  | [] => none
  | c :: l => if c = 34 then chars l else none
/-- One byte that must stand there. -/
def want (c : UInt8) : Bytes → Option Bytes
  | [] => none
  | d :: l => if d = c then some l else none
/-- One byte that must stand there, and the blanks about it. -/
def mark (c : UInt8) (l : Bytes) : Option Bytes := (want c (skip l)).map skip
/-- The bytes of a word, one behind the other. -/
def word : Bytes → Bytes → Option Bytes
  | [], l => some l
  | c :: t, l => (want c l).bind (word t)
/-- Digits that are a number: one to nine, no 0 ahead of others. -/
def fine (d : Bytes) : Bool := d.length != 0 && decide (d.length ≤ 9) && !(decide (1 < d.length) && d.head? == some 48)
/-- What stands behind a minus, if there is one. -/
def unsigned : Bytes → Bytes
  | [] => []
  | c :: l => if c = 45 then l else c :: l
def number (l : Bytes) : Option Bytes := if fine ((unsigned l).takeWhile isDigit) then some ((unsigned l).dropWhile isDigit) else none
/-- A value: its text, if it is a string. -/
def value : Bytes → Option (Option Bytes × Bytes)
  | [] => none
  | c :: l =>
    if c = 34 then (chars l).map fun p => (some p.1, p.2)
    else if c = 116 then (word [116, 114, 117, 101] (c :: l)).map fun r => (none, r)
    else if c = 102 then (word [102, 97, 108, 115, 101] (c :: l)).map fun r => (none, r)
    else if c = 110 then (word [110, 117, 108, 108] (c :: l)).map fun r => (none, r)
    else (number (c :: l)).map fun r => (none, r)
/-- A field: its name, its value; and the blanks behind it. -/
def field (l : Bytes) : Option ((Bytes × Option Bytes) × Bytes) :=
  (quoted l).bind fun p => (mark 58 p.2).bind fun r => (value r).map fun q => ((p.1, q.1), skip q.2)
/-- The fields from one on, behind those of `had`; n: how many there may be at most. -/
def fields : Nat → List (Bytes × Option Bytes) → Bytes → Option (List (Bytes × Option Bytes) × Bytes)
  | 0, _, _ => none
  | n + 1, had, l => (field l).bind fun p =>
    if had.any (fun q => q.1 == p.1.1) then none
    else match p.2 with
      | [] => none
      | c :: r => if c = 44 then fields n (had ++ [p.1]) (skip r) else if c = 125 then some (had ++ [p.1], skip r) else none
def object (l : Bytes) : Option (List (Bytes × Option Bytes)) :=
  (mark 123 l).bind fun r => match r with
    | [] => none
    | c :: t => if c = 125 then (if skip t = [] then some [] else none) else (fields (c :: t).length [] (c :: t)).bind fun p => if p.2 = [] then some p.1 else none
/-- The value of a name. -/
def get (name : Bytes) (f : List (Bytes × Option Bytes)) : Option Bytes := ((f.find? fun q => q.1 == name).map (·.2)).getD none

theorem skip_le (l : Bytes) : (skip l).length ≤ l.length := (List.dropWhile_suffix _).length_le
theorem skip_cons_blank {c : UInt8} (l : Bytes) (h : isBlank c = true) : skip (c :: l) = skip l := by unfold skip; rw [List.dropWhile_cons, if_pos h]
theorem skip_cons_other {c : UInt8} (l : Bytes) (h : isBlank c = false) : skip (c :: l) = c :: l := by unfold skip; rw [List.dropWhile_cons, if_neg (by rw [h]; decide)]
theorem skip_head (l : Bytes) (c : UInt8) (r : Bytes) (h : skip l = c :: r) : isBlank c = false := by
  induction l with
  | nil => simp [skip] at h
  | cons d l ih =>
    cases hb : isBlank d with
    | true => rw [skip_cons_blank l hb] at h; exact ih h
    | false =>
      rw [skip_cons_other l hb] at h
      injection h with h1 _
      rw [← h1]; exact hb
theorem skip_skip (l : Bytes) : skip (skip l) = skip l := by
  cases h : skip l with
  | nil => rfl
  | cons c r => exact skip_cons_other r (skip_head l c r h)
theorem chars_lt : ∀ (n : Nat) (l t r : Bytes), l.length ≤ n → chars l = some (t, r) → r.length < l.length
  | _, [], t, r, _, h => by simp [chars] at h
  | 0, c :: l, t, r, hn, h => by simp at hn
  | n + 1, c :: l, t, r, hn, h => by
    have hl : l.length ≤ n := by simpa using hn
    unfold chars at h
    split at h
    · simp only [Option.some.injEq, Prod.mk.injEq] at h
      rw [← h.2]; simp
    split at h
    · split at h
      · cases h
      · rename_i d r'
        split at h
        · cases h
        · obtain ⟨p, hp, he⟩ := Option.map_eq_some_iff.1 h
          have i := chars_lt n r' p.1 p.2 (by simp at hl; omega) hp
          rw [Prod.mk.injEq] at he
          rw [← he.2]; simp; omega
    · split at h
      · obtain ⟨p, hp, he⟩ := Option.map_eq_some_iff.1 h
        have i := chars_lt n l p.1 p.2 hl hp
        rw [Prod.mk.injEq] at he
        rw [← he.2]; simp; omega
      · cases h
theorem quoted_lt (l t r : Bytes) (h : quoted l = some (t, r)) : r.length < l.length := by
  cases l with
  | nil => cases h
  | cons c l =>
    rw [quoted] at h
    split at h
    · have := chars_lt _ l t r (Nat.le_refl _) h
      simp; omega
    · cases h
theorem want_lt {c : UInt8} {l r : Bytes} (h : want c l = some r) : r.length < l.length := by
  cases l with
  | nil => cases h
  | cons d l =>
    rw [want] at h
    split at h
    · injection h with h; rw [← h]; simp
    · cases h
theorem mark_lt {c : UInt8} {l r : Bytes} (h : mark c l = some r) : r.length < l.length := by
  unfold mark at h
  obtain ⟨q, hq, he⟩ := Option.map_eq_some_iff.1 h
  have h1 := want_lt hq
  have h2 := skip_le l
  have h3 := skip_le q
  rw [← he]; omega
theorem word_le : ∀ (t l r : Bytes), word t l = some r → r.length ≤ l.length
  | [], l, r, h => by unfold word at h; injection h with h; rw [h]; exact Nat.le_refl _
  | c :: t, l, r, h => by
    unfold word at h
    obtain ⟨q, hq, he⟩ := Option.bind_eq_some_iff.1 h
    have h1 := want_lt hq
    have h2 := word_le t q r he
    omega
theorem unsigned_le (l : Bytes) : (unsigned l).length ≤ l.length := by
  cases l with
  | nil => exact Nat.le_refl _
  | cons c l => rw [unsigned]; split <;> simp
theorem number_le {l r : Bytes} (h : number l = some r) : r.length ≤ l.length := by
  unfold number at h
  split at h
  · injection h with h
    rw [← h]
    exact Nat.le_trans (List.dropWhile_suffix _).length_le (unsigned_le l)
  · cases h
theorem value_le {l r : Bytes} {v : Option Bytes} (h : value l = some (v, r)) : r.length ≤ l.length := by
  cases l with
  | nil => cases h
  | cons c l =>
    rw [value] at h
    split at h
    · obtain ⟨p, hp, he⟩ := Option.map_eq_some_iff.1 h
      have := chars_lt _ l p.1 p.2 (Nat.le_refl _) hp
      rw [Prod.mk.injEq] at he
      rw [← he.2]; simp; omega
    repeat
      split at h
      · obtain ⟨q, hq, he⟩ := Option.map_eq_some_iff.1 h
        rw [Prod.mk.injEq] at he
        rw [← he.2]; exact word_le _ _ _ hq
    obtain ⟨q, hq, he⟩ := Option.map_eq_some_iff.1 h
    rw [Prod.mk.injEq] at he
    rw [← he.2]; exact number_le hq
/-- A field takes something: so there are no more fields than bytes. -/
theorem field_lt {l r : Bytes} {p : Bytes × Option Bytes} (h : field l = some (p, r)) : r.length < l.length := by
  unfold field at h
  obtain ⟨q, hq, h⟩ := Option.bind_eq_some_iff.1 h
  obtain ⟨m, hm, h⟩ := Option.bind_eq_some_iff.1 h
  obtain ⟨v, hv, h⟩ := Option.map_eq_some_iff.1 h
  rw [Prod.mk.injEq] at h
  have h1 := quoted_lt l q.1 q.2 hq
  have h2 := mark_lt hm
  have h3 := value_le (v := v.1) (r := v.2) hv
  have h4 := skip_le v.2
  rw [← h.2]; omega
/-- How many fields there may be does not matter, once there may be as many as bytes. -/
theorem fields_more : ∀ (n m : Nat) (had : List (Bytes × Option Bytes)) (l : Bytes), l.length ≤ n → l.length ≤ m → fields n had l = fields m had l
  | 0, 0, _, _, _, _ => rfl
  | 0, m + 1, had, l, hn, _ => by
    have e : l = [] := List.length_eq_zero_iff.1 (by omega)
    subst e; rfl
  | n + 1, 0, had, l, _, hm => by
    have e : l = [] := List.length_eq_zero_iff.1 (by omega)
    subst e; rfl
  | n + 1, m + 1, had, l, hn, hm => by
    unfold fields
    cases hf : field l with
    | none => rfl
    | some p =>
      obtain ⟨q, r⟩ := p
      have h1 := field_lt hf
      simp only [Option.bind_some]
      split
      · rfl
      · cases r with
        | nil => rfl
        | cons c t =>
          simp only
          split
          · have h2 := skip_le t
            have h3 : t.length < l.length := by simp at h1; omega
            exact fields_more n m _ _ (by omega) (by omega)
          · rfl
end Go.Proofs.YtfngjfnakokgmaaGreatDoor.Txt
/- The reader of a text about a version (package info): what lies in memory, its bytes, its small steps. -/
namespace Go.Proofs.YtfngjfnakokgmaaGreatDoor.Txt
open Go.RowKit Go.Proofs.YtfngjfnakokgmaaGreatDoor.Sha

/-- Is there a fault? -/
def errIs : Bool → Value → Prop
  | false, ev => ev = .nilIface
  | true, ev => ∃ x, ev = .iface 217 x
/-- The reader at block rb: its text, how many bytes are taken, whether there is a fault. -/
structure RD (rb : Nat) (s : ByteArray) (a : Nat) (bad : Bool) (w : World) : Prop where
  c0 : w.cell? ⟨rb, 0, none⟩ = some (.string s)
  c1 : w.cell? ⟨rb, 1, none⟩ = some (.int .i64 (a : Int))
  c2 : ∃ ev, w.cell? ⟨rb, 2, none⟩ = some ev ∧ errIs bad ev
  fro : ∀ j, w.frozen? ⟨rb, j, none⟩ = false
  lt : rb < w.heap.size
  le : a ≤ s.size
/-- Of what there was, only blocks of S are turned. -/
structure Only (S : Nat → Prop) (w w' : World) : Prop where
  os : w'.os = w.os
  tape : w'.tape = w.tape
  output : w'.output = w.output
  size : w.heap.size ≤ w'.heap.size
  block : ∀ k, k < w.heap.size → ¬ S k → w'.heap[k]? = w.heap[k]?
theorem Only.refl (S : Nat → Prop) (w : World) : Only S w w := ⟨rfl, rfl, rfl, Nat.le_refl _, fun _ _ _ => rfl⟩
theorem Only.trans {S : Nat → Prop} {a b c : World} (h : Only S a b) (k : Only S b c) : Only S a c :=
  ⟨k.os.trans h.os, k.tape.trans h.tape, k.output.trans h.output, Nat.le_trans h.size k.size, fun i hi hn => (k.block i (Nat.lt_of_lt_of_le hi h.size) hn).trans (h.block i hi hn)⟩
theorem Only.drew (S : Nat → Prop) (w : World) (n : Nat) : Only S w (w.drewN n) := ⟨rfl, rfl, rfl, Nat.le_refl _, fun _ _ _ => rfl⟩
theorem Only.of_below {S : Nat → Prop} {w w' : World} (h : Below w.heap.size w w') : Only S w w' := ⟨h.os, h.tape, h.output, h.size, fun k hk _ => h.block k hk⟩
theorem Only.set {S : Nat → Prop} (w : World) {b : Nat} (j : Nat) (v : Value) (hb : S b) : Only S w (w.setCell ⟨b, j, none⟩ v) :=
  ⟨rfl, rfl, rfl, by simp, fun k _ hn => Below.heap_setCell w ⟨b, j, none⟩ v k (fun e => hn (by rw [e]; exact hb))⟩
theorem Only.mono {S T : Nat → Prop} {w w' : World} (h : Only S w w') (hST : ∀ k, S k → T k) : Only T w w' := ⟨h.os, h.tape, h.output, h.size, fun k hk hn => h.block k hk (fun hs => hn (hST k hs))⟩
theorem Only.cell {S : Nat → Prop} {w w' : World} (h : Only S w w') {p : Addr} (hp : p.block < w.heap.size) (hn : ¬ S p.block) : w'.cell? p = w.cell? p := World.cell?_of_block (w := w) (h.block p.block hp hn)
/-- The errors that the reader may tell. -/
structure TxtW (w : World) : Prop where
  byte : ∃ x, w.cell? ⟨21, 0, none⟩ = some (.iface 217 x)
  fin : ∃ x, w.cell? ⟨20, 0, none⟩ = some (.iface 217 x)
  numb : ∃ x, w.cell? ⟨28, 0, none⟩ = some (.iface 217 x)
  twice : ∃ x, w.cell? ⟨19, 0, none⟩ = some (.iface 217 x)
  none' : ∃ x, w.cell? ⟨15, 0, none⟩ = some (.iface 217 x)
  ng : 29 ≤ w.heap.size
theorem TxtW.only {S : Nat → Prop} {w w' : World} (h : TxtW w) (hk : Only S w w') (hS : ∀ k, S k → 29 ≤ k) : TxtW w' := by
  have g : ∀ k, k < 29 → w'.cell? ⟨k, 0, none⟩ = w.cell? ⟨k, 0, none⟩ := fun k hlt => hk.cell (p := ⟨k, 0, none⟩) (show k < w.heap.size by have := h.ng; omega) (fun hs => by have : 29 ≤ k := hS k hs; omega)
  obtain ⟨⟨x1, h1⟩, ⟨x2, h2⟩, ⟨x3, h3⟩, ⟨x4, h4⟩, ⟨x5, h5⟩, h6⟩ := h
  exact ⟨⟨x1, by rw [g _ (by decide)]; exact h1⟩, ⟨x2, by rw [g _ (by decide)]; exact h2⟩, ⟨x3, by rw [g _ (by decide)]; exact h3⟩, ⟨x4, by rw [g _ (by decide)]; exact h4⟩, ⟨x5, by rw [g _ (by decide)]; exact h5⟩, Nat.le_trans h6 hk.size⟩
theorem set_ne {w : World} {b i j : Nat} {u v : Value} (h : w.cell? ⟨b, i, none⟩ = some v) (hne : j ≠ i) : (w.setCell ⟨b, j, none⟩ u).cell? ⟨b, i, none⟩ = some v := by
  rw [World.cell?_setCell_other _ _ _ _ (by intro e; injection e with _ e1; exact hne e1)]; exact h
section
variable {rb : Nat} {s : ByteArray} {a : Nat} {bad : Bool} {w : World}
theorem RD.drew (h : RD rb s a bad w) (n : Nat) : RD rb s a bad (w.drewN n) := ⟨h.c0, h.c1, h.c2, h.fro, h.lt, h.le⟩
theorem RD.setAt (h : RD rb s a bad w) (z : Int) (a' : Nat) (hz : z = (a' : Int)) (ha : a' ≤ s.size) : RD rb s a' bad (w.setCell ⟨rb, 1, none⟩ (.int .i64 z)) := by
  obtain ⟨ev, he, hb⟩ := h.c2
  subst hz
  exact ⟨set_ne h.c0 (by decide), World.cell?_setCell_same _ _ _ h.c1, ⟨ev, set_ne he (by decide), hb⟩, fun j => by rw [World.frozen?_setCell]; exact h.fro j, by simpa using h.lt, ha⟩
theorem RD.setErr (h : RD rb s a bad w) (x : Value) : RD rb s a true (w.setCell ⟨rb, 2, none⟩ (.iface 217 x)) := by
  obtain ⟨ev, he, _⟩ := h.c2
  exact ⟨set_ne h.c0 (by decide), set_ne h.c1 (by decide), ⟨_, World.cell?_setCell_same _ _ _ he, x, rfl⟩, fun j => by rw [World.frozen?_setCell]; exact h.fro j, by simpa using h.lt, h.le⟩

theorem fail_walk (x : Value) (h : RD rb s a bad w) :
    Calls Tryz.prog 104 #[.pointer (some ⟨rb, 0, none⟩), .iface 217 x] w fun e w' => e = .returned (.tuple #[]) ∧ RD rb s a true w' ∧ Only (· = rb) w w' := by
  obtain ⟨ev, he, hb⟩ := h.c2
  have hf := h.fro 2
  cases bad with
  | true =>
    obtain ⟨y, rfl⟩ := hb
    go_enter Tryz.func104, Tryz.ntmps104
    go_wp2
    go_end0
    exact ⟨rfl, h, Only.refl _ _⟩
  | false =>
    cases hb
    go_enter Tryz.func104, Tryz.ntmps104
    go_wp2
    go_end0
    exact ⟨rfl, h.setErr x, Only.set _ _ _ rfl⟩
/-- What the reader sees. -/
def seen (s : ByteArray) (a : Nat) (bad : Bool) : UInt8 := if bad then 0 else s.data.toList.getD a 0
theorem see_bad (h : RD rb s a true w) : Calls Tryz.prog 82 #[.pointer (some ⟨rb, 0, none⟩)] w fun e w' => e = .returned (.int .u8 0) ∧ RD rb s a true w' ∧ Only (· = rb) w w' := by
  have HH : Hid (RD rb s a true w) := h
  obtain ⟨ev, he, hb⟩ := h.c2
  obtain ⟨y, rfl⟩ := hb
  have c0 := h.c0
  have c1 := h.c1
  clear h
  go_enter Tryz.func82, Tryz.ntmps82
  go_wp2_with fail
  go_quiet (fail)
  go_wp2
  go_ret
  exact ⟨rfl, HH.out.drew _, Only.drew _ _ _⟩
theorem see_end (h : RD rb s s.size false w) : Calls Tryz.prog 82 #[.pointer (some ⟨rb, 0, none⟩)] w fun e w' => e = .returned (.int .u8 0) ∧ RD rb s s.size false w' ∧ Only (· = rb) w w' := by
  have HH : Hid (RD rb s s.size false w) := h
  obtain ⟨ev, he, hb⟩ := h.c2
  cases hb
  have c0 := h.c0
  have c1 := h.c1
  clear h
  have ht : ((s.size : Int) == (s.size : Int)) = true := by simp
  go_enter Tryz.func82, Tryz.ntmps82
  go_wp2_with fail
  go_quiet (fail)
  go_wp2
  go_ret
  exact ⟨rfl, HH.out.drew _, Only.drew _ _ _⟩
theorem see_good (h : RD rb s a false w) (ha : a < s.size) : Calls Tryz.prog 82 #[.pointer (some ⟨rb, 0, none⟩)] w fun e w' => e = .returned (.int .u8 ((s[a].toNat : Nat) : Int)) ∧ RD rb s a false w' ∧ Only (· = rb) w w' := by
  have HH : Hid (RD rb s a false w) := h
  obtain ⟨ev, he, hb⟩ := h.c2
  cases hb
  have c0 := h.c0
  have c1 := h.c1
  clear h
  have hne : ((a : Int) == (s.size : Int)) = false := by simp; omega
  have hai : (a : Int) < (s.size : Int) := by omega
  go_enter Tryz.func82, Tryz.ntmps82
  go_wp2_with fail
  go_quiet (fail)
  have h1 := HH.out.drew nq
  have k1 : Only (· = rb) w (w.drewN nq) := Only.drew _ _ nq
  clear c0 c1 he
  generalize hw1 : w.drewN nq = w1 at *
  have c0 := h1.c0
  have c1 := h1.c1
  have HH1 : Hid (RD rb s a false w1) := h1
  have HK1 : Hid (Only (· = rb) w w1) := k1
  clear h1 hw1 k1
  go_wp2_with fail
  go_quiet (fail)
  go_wp2
  go_ret
  exact ⟨rfl, HH1.out.drew _, HK1.out.trans (Only.drew _ _ _)⟩
end
end Go.Proofs.YtfngjfnakokgmaaGreatDoor.Txt
/- The reader's steps: what it sees, refuse, want. -/
namespace Go.Proofs.YtfngjfnakokgmaaGreatDoor.Txt
open Go.RowKit Go.Proofs.YtfngjfnakokgmaaGreatDoor.Sha
section
variable {rb : Nat} {s : ByteArray} {a : Nat} {bad : Bool} {w : World}
theorem seen_good (ha : a < s.size) : seen s a false = s[a] := by simp [seen, ByteArray.getElem_eq_getElem_data, ha]
theorem seen_end (s : ByteArray) : seen s s.size false = 0 := by
  have h : s.data.toList[s.size]? = none := List.getElem?_eq_none (by simp)
  simp only [seen, List.getD_eq_getElem?_getD, h]; rfl
theorem see_any (h : RD rb s a bad w) : Calls Tryz.prog 82 #[.pointer (some ⟨rb, 0, none⟩)] w fun e w' => e = .returned (.int .u8 ((seen s a bad).toNat : Int)) ∧ RD rb s a bad w' ∧ Only (· = rb) w w' := by
  cases bad with
  | true => exact see_bad h
  | false =>
    rcases Nat.lt_or_ge a s.size with ha | ha
    · rw [seen_good ha]; exact see_good h ha
    · obtain rfl : a = s.size := Nat.le_antisymm h.le ha
      rw [seen_end]; exact see_end h
theorem refuse_walk (h : RD rb s a bad w) (hW : TxtW w) (hg : 29 ≤ rb) : Calls Tryz.prog 84 #[.pointer (some ⟨rb, 0, none⟩)] w fun e w' => e = .returned (.tuple #[]) ∧ RD rb s a true w' ∧ Only (· = rb) w w' := by
  have HH : Hid (RD rb s a bad w) := h
  have HT : Hid (TxtW w) := hW
  have c0 := h.c0
  have c1 := h.c1
  by_cases ha : a = s.size
  · have ht : ((a : Int) == (s.size : Int)) = true := by simp; omega
    clear h hW ha
    go_enter Tryz.func84, Tryz.ntmps84
    go_wp2_with fail
    go_quiet (fail)
    have h1 := HH.out.drew nq
    have k1 : Only (· = rb) w (w.drewN nq) := Only.drew _ _ nq
    have t1 : TxtW (w.drewN nq) := HT.out.only k1 (fun k hk => by rw [hk]; exact hg)
    clear c0 c1
    generalize hw1 : w.drewN nq = w1 at *
    obtain ⟨x, hx⟩ := t1.fin
    clear hw1 t1
    have HH1 : Hid (RD rb s a bad w1) := h1
    have HK1 : Hid (Only (· = rb) w w1) := k1
    clear h1 k1
    go_wp2_with fail
    refine (fail_walk x HH1.out).mono ?_
    rintro e w2 ⟨rfl, h2, k2⟩
    have HH2 : Hid (RD rb s a true w2) := h2
    have HK2 : Hid (Only (· = rb) w w2) := HK1.out.trans k2
    clear h2 k2 hx
    go_wp2
    (try simp only [Exit.inBlock, Exit.then])
    exact bodyPost_ret (results_none rfl _ _ _) rfl ⟨rfl, HH2.out, HK2.out⟩
  · have ht : ((a : Int) == (s.size : Int)) = false := by simp; omega
    clear h hW ha
    go_enter Tryz.func84, Tryz.ntmps84
    go_wp2_with fail
    go_quiet (fail)
    have h1 := HH.out.drew nq
    have k1 : Only (· = rb) w (w.drewN nq) := Only.drew _ _ nq
    have t1 : TxtW (w.drewN nq) := HT.out.only k1 (fun k hk => by rw [hk]; exact hg)
    clear c0 c1
    generalize hw1 : w.drewN nq = w1 at *
    obtain ⟨x, hx⟩ := t1.byte
    clear hw1 t1
    have HH1 : Hid (RD rb s a bad w1) := h1
    have HK1 : Hid (Only (· = rb) w w1) := k1
    clear h1 k1
    go_wp2_with fail
    refine (fail_walk x HH1.out).mono ?_
    rintro e w2 ⟨rfl, h2, k2⟩
    have HH2 : Hid (RD rb s a true w2) := h2
    have HK2 : Hid (Only (· = rb) w w2) := HK1.out.trans k2
    clear h2 k2 hx
    go_wp2
    go_end0
    exact ⟨rfl, HH2.out, HK2.out⟩
/-- A byte that is seen stands there. -/
theorem seen_drop (c : UInt8) (hc : c ≠ 0) (h : seen s a bad = c) : bad = false ∧ a < s.size ∧ s.data.toList.drop a = c :: s.data.toList.drop (a + 1) := by
  cases bad with
  | true => exact absurd h.symm hc
  | false =>
    have hl : a < s.data.toList.length := by
      rcases Nat.lt_or_ge a s.data.toList.length with hl | hl
      · exact hl
      · have e : s.data.toList[a]? = none := List.getElem?_eq_none hl
        simp only [seen, List.getD_eq_getElem?_getD, e] at h
        exact absurd h.symm hc
    refine ⟨rfl, by simpa using hl, ?_⟩
    rw [List.drop_eq_getElem_cons hl]
    have e : s.data.toList[a]? = some s.data.toList[a] := List.getElem?_eq_getElem hl
    simp only [seen, List.getD_eq_getElem?_getD, e] at h
    rw [show s.data.toList[a] = c from h]
/-- Where the byte stands it is taken; where not, there is a fault. -/
theorem want_yes (c : UInt8) (h : RD rb s a bad w) (hc : c ≠ 0) (hs : s.size ≤ 140737488355328) (hy : seen s a bad = c) :
    Calls Tryz.prog 101 #[.pointer (some ⟨rb, 0, none⟩), .int .u8 (c.toNat : Int)] w fun e w' => e = .returned (.tuple #[]) ∧ RD rb s (a + 1) bad w' ∧ Only (· = rb) w w' := by
  have hd := seen_drop c hc hy
  have HL : Hid (a < s.size) := hd.2.1
  have hne : ((c.toNat : Int) != (c.toNat : Int)) = false := by simp
  have HY : Hid (seen s a bad = c) := hy
  have HH : Hid (RD rb s a bad w) := h
  have ha : a ≤ 140737488355328 := by omega
  clear hd hy h
  go_enter Tryz.func101, Tryz.ntmps101
  go_wp2_with fail
  refine (see_any HH.out).mono ?_
  rintro e w1 ⟨rfl, h1, k1⟩
  rw [HY.out]
  have c1 := h1.c1
  have f1 := h1.fro 1
  have h2 := h1.setAt ((a : Int) + 1) (a + 1) (by omega) HL.out
  have HH2 : Hid (RD rb s (a + 1) bad (w1.setCell ⟨rb, 1, none⟩ (.int .i64 ((a : Int) + 1)))) := h2
  have HK2 : Hid (Only (· = rb) w (w1.setCell ⟨rb, 1, none⟩ (.int .i64 ((a : Int) + 1)))) := k1.trans (Only.set _ _ _ rfl)
  clear h1 h2 k1
  go_wp2
  go_end0
  exact ⟨rfl, HH2.out, HK2.out⟩
theorem want_no (c : UInt8) (h : RD rb s a bad w) (hW : TxtW w) (hg : 29 ≤ rb) (hy : seen s a bad ≠ c) :
    Calls Tryz.prog 101 #[.pointer (some ⟨rb, 0, none⟩), .int .u8 (c.toNat : Int)] w fun e w' => e = .returned (.tuple #[]) ∧ RD rb s a true w' ∧ Only (· = rb) w w' := by
  have HN : Hid ((((seen s a bad).toNat : Int) != (c.toNat : Int)) = true) := by
    show _ = _
    simp only [bne_iff_ne, ne_eq]
    intro e
    exact hy (UInt8.toNat_inj.1 (by omega))
  have HH : Hid (RD rb s a bad w) := h
  have HT : Hid (TxtW w) := hW
  clear hy h hW
  go_enter Tryz.func101, Tryz.ntmps101
  go_wp2_with fail
  refine (see_any HH.out).mono ?_
  rintro e w1 ⟨rfl, h1, k1⟩
  have HT1 : Hid (TxtW w1) := HT.out.only k1 (fun k hk => by rw [hk]; exact hg)
  have HH1 : Hid (RD rb s a bad w1) := h1
  have HK1 : Hid (Only (· = rb) w w1) := k1
  clear h1 k1
  have hne := HN.out
  generalize (seen s a bad) = u at hne
  go_wp2_with fail
  refine (refuse_walk HH1.out HT1.out hg).mono ?_
  rintro e w2 ⟨rfl, h2, k2⟩
  have HH2 : Hid (RD rb s a true w2) := h2
  have HK2 : Hid (Only (· = rb) w w2) := HK1.out.trans k2
  clear h2 k2
  go_wp2
  (try simp only [Exit.inBlock, Exit.then])
  exact bodyPost_ret (results_none rfl _ _ _) rfl ⟨rfl, HH2.out, HK2.out⟩
end
end Go.Proofs.YtfngjfnakokgmaaGreatDoor.Txt
