/- Replies: a row of cells in memory; the document's small functions. -/
import Derived.Test.YtmodongnganbfaaGreatDoorBaseToShaOwn
import Derived.Test.YtmodongnganbfaaGreatDoorReadMath
namespace Go.Proofs.YtmodongnganbfaaGreatDoor.Rep
open Go.RowKit Go.Proofs.YtmodongnganbfaaGreatDoor Go.Proofs.YtmodongnganbfaaGreatDoor.Sha
/-- The cells of a block are these. -/
structure Row (w : World) (b : Nat) (xs : List Value) : Prop where
  cell : ∀ i v, xs[i]? = some v → w.cell? ⟨b, i, none⟩ = some v
  fro : ∀ i, w.frozen? ⟨b, i, none⟩ = false
theorem Row.set {w : World} {b : Nat} {xs : List Value} (h : Row w b xs) (i : Nat) (v : Value) (hi : i < xs.length) : Row (w.setCell ⟨b, i, none⟩ v) b (xs.set i v) := by
  refine ⟨fun j u hj => ?_, fun j => by rw [World.frozen?_setCell]; exact h.fro j⟩
  by_cases e : i = j
  · subst e
    rw [List.getElem?_set_self hi] at hj
    injection hj with hj
    subst hj
    exact World.cell?_setCell_same _ _ _ (h.cell i _ (List.getElem?_eq_getElem hi))
  · rw [List.getElem?_set_ne e] at hj
    rw [World.cell?_setCell_other _ _ _ _ (by intro q; injection q with _ q; exact e q)]
    exact h.cell j u hj
theorem Row.lt {w : World} {b : Nat} {xs : List Value} (h : Row w b xs) (hp : 0 < xs.length) : b < w.heap.size := Go.Proofs.YtmodongnganbfaaGreatDoor.lt_of_cell (h.cell 0 _ (List.getElem?_eq_getElem hp))
theorem Row.below {w w' : World} {b : Nat} {xs : List Value} (h : Row w b xs) (hp : 0 < xs.length) (hb : Below w.heap.size w w') : Row w' b xs := by
  have hl := h.lt hp
  exact ⟨fun i v hi => by rw [hb.cell (p := ⟨b, i, none⟩) hl]; exact h.cell i v hi, fun i => by rw [hb.frozen (p := ⟨b, i, none⟩) hl]; exact h.fro i⟩
/-- The document's machine in memory. -/
def encM (limit : Nat) (nv vv last fr tot : Value) (m : Mc) : List Value :=
  [.int .i64 (m.at' : Int), .int .i64 (m.thn : Int), .int .i64 (limit : Int), .int .i64 (m.used : Int), .int .i64 (m.start : Int), .string ⟨m.name.toArray⟩, .string ⟨m.value.toArray⟩, nv, vv, .bool m.headed, .bool m.tail, .int .i64 (m.size : Int), .int .i64 (m.all : Int), last, .int .i64 0, .int .i64 (m.status : Int), .string ⟨m.tag.toArray⟩, .string ⟨m.body.toArray⟩, fr, tot, .int .i64 0]
theorem within_walk (n most : Int) (w : World) (hm : 0 ≤ most) : Calls Tryz.prog 10 #[.int .i64 n, .int .i64 most] w fun e w' => e = .returned (.int .i64 (min (max n 0) most)) ∧ w' = w := by
  by_cases h1 : n < 0
  · have h : min (max n 0) most = 0 := by omega
    rw [h]
    go_enter Tryz.func10, Tryz.ntmps10
    go_wp2
    go_ret
    exact ⟨rfl, rfl⟩
  · by_cases h2 : most < n
    · have h : min (max n 0) most = most := by omega
      rw [h]
      go_enter Tryz.func10, Tryz.ntmps10
      go_wp2
      go_ret
      exact ⟨rfl, rfl⟩
    · have h : min (max n 0) most = n := by omega
      rw [h]
      go_enter Tryz.func10, Tryz.ntmps10
      go_wp2
      go_ret
      exact ⟨rfl, rfl⟩
theorem seen_nat (n : Nat) (w : World) (hc : n < 256) : Calls Tryz.prog 37 #[.int .u8 (n : Int)] w fun e w' => e = .returned (.bool (decide (32 ≤ n) && decide (n ≤ 126))) ∧ w' = w := by
  by_cases h1 : 32 ≤ n
  · by_cases h2 : n ≤ 126
    · rw [decide_eq_true h1, decide_eq_true h2]
      have g1 : (32 : Int) ≤ (n : Int) := by omega
      have g2 : (n : Int) ≤ 126 := by omega
      go_enter Tryz.func37, Tryz.ntmps37
      go_wp2
      go_ret
      exact ⟨rfl, rfl⟩
    · rw [decide_eq_true h1, decide_eq_false h2]
      have g1 : (32 : Int) ≤ (n : Int) := by omega
      have g2 : ¬ (n : Int) ≤ 126 := by omega
      go_enter Tryz.func37, Tryz.ntmps37
      go_wp2
      go_ret
      exact ⟨rfl, rfl⟩
  · rw [decide_eq_false h1]
    have g1 : ¬ (32 : Int) ≤ (n : Int) := by omega
    go_enter Tryz.func37, Tryz.ntmps37
    go_wp2
    go_ret
    exact ⟨rfl, rfl⟩
theorem seen_walk (c : UInt8) (w : World) : Calls Tryz.prog 37 #[.int .u8 c.toNat] w fun e w' => e = .returned (.bool (isText c)) ∧ w' = w := seen_nat c.toNat w c.toNat_lt
/-- What the document calls a complete reply's class. -/
def classOf (st : Nat) : Nat := if st = 200 then 1 else if st = 206 then 2 else if st = 404 ∨ st = 410 then 3 else if st = 429 ∨ 500 ≤ st then 4 else 5
theorem class_walk (st : Nat) (w : World) (hs : st < 100000) : Calls Tryz.prog 18 #[.int .i64 (st : Int)] w fun e w' => e = .returned (.int .i64 (classOf st : Int)) ∧ w' = w := by
  by_cases h0 : st = 200
  · have b0 : ((st : Int) == 200) = true := by simp [h0]
    have hv : classOf st = 1 := by unfold classOf; repeat (first | rw [if_pos (by omega)] | rw [if_neg (by omega)])
    rw [hv]
    clear hv
    go_enter Tryz.func18, Tryz.ntmps18
    go_wp2
    go_ret
    exact ⟨rfl, rfl⟩
  by_cases h1 : st = 206
  · have b0 : ((st : Int) == 200) = false := by simp; omega
    have b1 : ((st : Int) == 206) = true := by simp [h1]
    have hv : classOf st = 2 := by unfold classOf; repeat (first | rw [if_pos (by omega)] | rw [if_neg (by omega)])
    rw [hv]
    clear hv
    go_enter Tryz.func18, Tryz.ntmps18
    go_wp2
    go_ret
    exact ⟨rfl, rfl⟩
  by_cases h2 : st = 404
  · have b0 : ((st : Int) == 200) = false := by simp; omega
    have b1 : ((st : Int) == 206) = false := by simp; omega
    have b2 : ((st : Int) == 404) = true := by simp [h2]
    have hv : classOf st = 3 := by unfold classOf; repeat (first | rw [if_pos (by omega)] | rw [if_neg (by omega)])
    rw [hv]
    clear hv
    go_enter Tryz.func18, Tryz.ntmps18
    go_wp2
    go_ret
    exact ⟨rfl, rfl⟩
  by_cases h3 : st = 410
  · have b0 : ((st : Int) == 200) = false := by simp; omega
    have b1 : ((st : Int) == 206) = false := by simp; omega
    have b2 : ((st : Int) == 404) = false := by simp; omega
    have b3 : ((st : Int) == 410) = true := by simp [h3]
    have hv : classOf st = 3 := by unfold classOf; repeat (first | rw [if_pos (by omega)] | rw [if_neg (by omega)])
    rw [hv]
    clear hv
    go_enter Tryz.func18, Tryz.ntmps18
    go_wp2
    go_ret
    exact ⟨rfl, rfl⟩
  by_cases h4 : st = 429
  · have b0 : ((st : Int) == 200) = false := by simp; omega
    have b1 : ((st : Int) == 206) = false := by simp; omega
    have b2 : ((st : Int) == 404) = false := by simp; omega
    have b3 : ((st : Int) == 410) = false := by simp; omega
    have b4 : ((st : Int) == 429) = true := by simp [h4]
    have hv : classOf st = 4 := by unfold classOf; repeat (first | rw [if_pos (by omega)] | rw [if_neg (by omega)])
    rw [hv]
    clear hv
    go_enter Tryz.func18, Tryz.ntmps18
    go_wp2
    go_ret
    exact ⟨rfl, rfl⟩
  by_cases h5 : 500 ≤ st
  · have b0 : ((st : Int) == 200) = false := by simp; omega
    have b1 : ((st : Int) == 206) = false := by simp; omega
    have b2 : ((st : Int) == 404) = false := by simp; omega
    have b3 : ((st : Int) == 410) = false := by simp; omega
    have b4 : ((st : Int) == 429) = false := by simp; omega
    have g5 : (500 : Int) ≤ (st : Int) := by omega
    have hv : classOf st = 4 := by unfold classOf; repeat (first | rw [if_pos (by omega)] | rw [if_neg (by omega)])
    rw [hv]
    clear hv
    go_enter Tryz.func18, Tryz.ntmps18
    go_wp2
    go_ret
    exact ⟨rfl, rfl⟩
  have b0 : ((st : Int) == 200) = false := by simp; omega
  have b1 : ((st : Int) == 206) = false := by simp; omega
  have b2 : ((st : Int) == 404) = false := by simp; omega
  have b3 : ((st : Int) == 410) = false := by simp; omega
  have b4 : ((st : Int) == 429) = false := by simp; omega
  have g5 : ¬ (500 : Int) ≤ (st : Int) := by omega
  have hv : classOf st = 5 := by unfold classOf; repeat (first | rw [if_pos (by omega)] | rw [if_neg (by omega)])
  rw [hv]
  clear hv
  go_enter Tryz.func18, Tryz.ntmps18
  go_wp2
  go_ret
  exact ⟨rfl, rfl⟩
end Go.Proofs.YtmodongnganbfaaGreatDoor.Rep
/- Replies: the document's machine in memory; counts, done. -/
namespace Go.Proofs.YtmodongnganbfaaGreatDoor.Rep
open Go.RowKit Go.Proofs.YtmodongnganbfaaGreatDoor Go.Proofs.YtmodongnganbfaaGreatDoor.Sha
def strL (l : Bytes) : Value := .string ⟨l.toArray⟩
/-- What tells of the part that a reply is: where it begins, its last byte, all of it. -/
def PartOf (m : Mc) (last fr tot : Value) : Prop :=
  (∃ x : Int, last = .int .i64 x) ∧ (m.headed = true ∧ m.status = 206 → ∃ s, m.span = some s ∧ last = .int .i64 (s.last : Int) ∧ fr = .int .i64 (s.first : Int) ∧ tot = .int .i64 (s.total : Int) ∧ s.first ≤ s.last ∧ s.last < 1000000000) ∧ (¬ (m.headed = true ∧ m.status = 206) → fr = .int .i64 0 ∧ tot = .int .i64 0)
/-- A list of the machine's own lies apart from it; an empty one lies nowhere. -/
def N1 (v : Value) (mb : Nat) (m : Mc) : Prop := v.ownBlock ≠ some mb ∧ (m.fields = [] → v.ownBlock = none)
/-- The document's machine at block mb. -/
structure DM (mb limit : Nat) (m : Mc) (w : World) : Prop where
  ex : ∃ nv vv last fr tot, Row w mb (encM limit nv vv last fr tot m) ∧ Own w mb nv ((m.fields.map (·.1)).map strL) ∧ Own w mb vv ((m.fields.map (·.2)).map strL) ∧ N1 nv mb m ∧ N1 vv mb m ∧ (∀ g, nv.ownBlock = some g → vv.ownBlock ≠ some g) ∧ PartOf m last fr tot
def IntV (v : Value) : Prop := ∃ x : Int, v = .int .i64 x
/-- What a step of the machine leaves. -/
def Stepped (mb limit : Nat) (o : Option Mc) (w' : World) : Prop := match o with
  | none => ∃ m nv vv last fr tot, Row w' mb (encM limit nv vv last fr tot m) ∧ m.at' = 15 ∧ IntV fr ∧ IntV tot
  | some m' => DM mb limit m' w'
theorem part_ints {m : Mc} {last fr tot : Value} (h : PartOf m last fr tot) : IntV fr ∧ IntV tot := by
  by_cases q : m.headed = true ∧ m.status = 206
  · obtain ⟨s, _, _, e1, e2, _⟩ := h.2.1 q
    exact ⟨⟨_, e1⟩, ⟨_, e2⟩⟩
  · obtain ⟨e1, e2⟩ := h.2.2 q
    exact ⟨⟨_, e1⟩, ⟨_, e2⟩⟩
theorem Stepped.broke {mb limit : Nat} {w : World} {nv vv last fr tot : Value} {m : Mc} (h : Row w mb (encM limit nv vv last fr tot m)) (hi : IntV fr ∧ IntV tot) : Stepped mb limit none (w.setCell ⟨mb, 0, none⟩ (.int .i64 15)) :=
  ⟨{ m with at' := 15 }, nv, vv, last, fr, tot, h.set 0 (.int .i64 15) (by simp [encM]), rfl, hi.1, hi.2⟩
theorem counts_walk (mb limit : Nat) (m : Mc) (w : World) (h : DM mb limit m w) (ha : m.at' < 16) (ht : m.thn < 16) : Calls Tryz.prog 19 #[.pointer (some ⟨mb, 0, none⟩)] w fun e w' => e = .returned (.bool (counts m)) ∧ w' = w := by
  obtain ⟨nv, vv, last, fr, tot, hR, _⟩ := h.ex
  have c0 : w.cell? ⟨mb, 0, none⟩ = some (.int .i64 (m.at' : Int)) := hR.cell 0 _ rfl
  have c1 : w.cell? ⟨mb, 1, none⟩ = some (.int .i64 (m.thn : Int)) := hR.cell 1 _ rfl
  unfold counts
  obtain ⟨a, ea⟩ : ∃ a, m.at' = a := ⟨_, rfl⟩
  obtain ⟨t, et⟩ : ∃ t, m.thn = t := ⟨_, rfl⟩
  rw [ea] at c0 ha ⊢
  rw [et] at c1 ht ⊢
  clear hR ea et h
  by_cases h4 : a = 4
  · subst h4
    by_cases h8 : t = 8
    · subst h8
      go_enter Tryz.func19, Tryz.ntmps19
      go_wp2
      go_ret
      exact ⟨rfl, rfl⟩
    · have b8 : ((t : Int) == 8) = false := by simp; omega
      have e8 : (t == 8) = false := by simp [h8]
      rw [e8]
      clear e8
      go_enter Tryz.func19, Tryz.ntmps19
      go_wp2
      go_ret
      exact ⟨rfl, rfl⟩
  · have b4 : ((a : Int) == 4) = false := by simp; omega
    have e4 : (a == 4) = false := by simp [h4]
    rw [e4]
    clear e4
    by_cases h9 : a ≤ 9
    · have g9 : (a : Int) ≤ 9 := by omega
      rw [decide_eq_true h9]
      go_enter Tryz.func19, Tryz.ntmps19
      go_wp2
      go_ret
      exact ⟨rfl, rfl⟩
    · have g9 : ¬ (a : Int) ≤ 9 := by omega
      rw [decide_eq_false h9]
      go_enter Tryz.func19, Tryz.ntmps19
      go_wp2
      go_ret
      exact ⟨rfl, rfl⟩
end Go.Proofs.YtmodongnganbfaaGreatDoor.Rep
/- What of the memory that there was is turned. -/
namespace Go.Proofs.YtmodongnganbfaaGreatDoor.Rep
open Go.RowKit Go.Proofs.YtmodongnganbfaaGreatDoor.Sha
/-- Of what there was, only blocks of S are turned. -/
structure Only (S : Nat → Prop) (w w' : World) : Prop where
  os : w'.os = w.os
  tape : w'.tape = w.tape
  output : w'.output = w.output
  size : w.heap.size ≤ w'.heap.size
  block : ∀ k, k < w.heap.size → ¬ S k → w'.heap[k]? = w.heap[k]?
theorem Only.refl (S : Nat → Prop) (w : World) : Only S w w := ⟨rfl, rfl, rfl, Nat.le_refl _, fun _ _ _ => rfl⟩
theorem Only.trans {S : Nat → Prop} {a b c : World} (h : Only S a b) (k : Only S b c) : Only S a c :=
  ⟨k.os.trans h.os, k.tape.trans h.tape, k.output.trans h.output, Nat.le_trans h.size k.size, fun i hi hn => (k.block i (Nat.lt_of_lt_of_le hi h.size) hn).trans (h.block i hi hn)⟩
theorem Only.drew (S : Nat → Prop) (w : World) (n : Nat) : Only S w (w.drewN n) := ⟨rfl, rfl, rfl, Nat.le_refl _, fun _ _ _ => rfl⟩
theorem Only.of_below {S : Nat → Prop} {w w' : World} (h : Below w.heap.size w w') : Only S w w' := ⟨h.os, h.tape, h.output, h.size, fun k hk _ => h.block k hk⟩
theorem Only.set {S : Nat → Prop} (w : World) {b : Nat} (j : Nat) (v : Value) (hb : S b) : Only S w (w.setCell ⟨b, j, none⟩ v) :=
  ⟨rfl, rfl, rfl, by simp, fun k _ hn => Below.heap_setCell w ⟨b, j, none⟩ v k (fun e => hn (by rw [e]; exact hb))⟩
theorem Only.mono {S T : Nat → Prop} {w w' : World} (h : Only S w w') (hST : ∀ k, S k → T k) : Only T w w' := ⟨h.os, h.tape, h.output, h.size, fun k hk hn => h.block k hk (fun hs => hn (hST k hs))⟩
theorem Only.cell {S : Nat → Prop} {w w' : World} (h : Only S w w') {p : Addr} (hp : p.block < w.heap.size) (hn : ¬ S p.block) : w'.cell? p = w.cell? p := World.cell?_of_block (w := w) (h.block p.block hp hn)
theorem own_only' {S : Nat → Prop} {w w' : World} {base : Nat} {v : Value} {xs : List Value} (h : Own w base v xs) (hk : Only S w w') (hs : ∀ g, v.ownBlock = some g → ¬ S g) : Own w' base v xs := by
  rcases h with h | ⟨g, cap, hv, h1, h2, h3, h4, h5⟩
  · exact .inl h
  · have hn : ¬ S g := hs g (by rw [hv]; rfl)
    have hb := hk.block g h2 hn
    refine .inr ⟨g, cap, hv, h1, Nat.lt_of_lt_of_le h2 hk.size, h3, fun j u hj => ?_, fun j hj => ?_⟩
    · rw [hk.cell (p := ⟨g, j, none⟩) h2 hn]; exact h4 j u hj
    · have e : w'.frozen? ⟨g, j, none⟩ = w.frozen? ⟨g, j, none⟩ := by simp only [World.frozen?, hb]
      rw [hk.cell (p := ⟨g, j, none⟩) h2 hn, e]; exact h5 j hj
theorem only_then {S S' : Nat → Prop} {w w1 w2 : World} (h : Only S w w1) (k : Only S' w1 w2) (hs : ∀ x, S' x → S x ∨ w.heap.size ≤ x) : Only S w w2 :=
  ⟨k.os.trans h.os, k.tape.trans h.tape, k.output.trans h.output, Nat.le_trans h.size k.size, fun i hi hn => (k.block i (Nat.lt_of_lt_of_le hi h.size) (fun e => (hs i e).elim hn (fun q => by omega))).trans (h.block i hi hn)⟩
theorem only_setCells (g : Nat) : ∀ (vs : List Value) (o : Nat) (w : World), Only (fun k => k = g) w (w.setCells g o vs)
  | [], _, w => Only.refl _ w
  | v :: vs, o, w => by
    have h1 : Only (fun k => k = g) w (w.setCell ⟨g, o, none⟩ v) := Only.set (S := fun k => k = g) w o v rfl
    exact h1.trans (only_setCells g vs (o + 1) _)
end Go.Proofs.YtmodongnganbfaaGreatDoor.Rep
/- Replies: the document's done. -/
namespace Go.Proofs.YtmodongnganbfaaGreatDoor.Rep
open Go.RowKit Go.Proofs.YtmodongnganbfaaGreatDoor Go.Proofs.YtmodongnganbfaaGreatDoor.Sha
theorem DM.mk' {mb limit : Nat} {m m' : Mc} {w w' : World} {nv vv last fr tot : Value} (hR' : Row w' mb (encM limit nv vv last fr tot m')) (hf : m'.fields = m.fields) (hN : Own w mb nv ((m.fields.map (·.1)).map strL)) (hV : Own w mb vv ((m.fields.map (·.2)).map strL)) (n1 : N1 nv mb m) (n2 : N1 vv mb m) (n3 : ∀ g, nv.ownBlock = some g → vv.ownBlock ≠ some g) (hk : Only (· = mb) w w') (hP : PartOf m' last fr tot) : DM mb limit m' w' :=
  ⟨⟨nv, vv, last, fr, tot, hR', by rw [hf]; exact own_only' hN hk (fun g hg e => n1.1 (by rw [hg, e])), by rw [hf]; exact own_only' hV hk (fun g hg e => n2.1 (by rw [hg, e])), ⟨n1.1, fun e => n1.2 (by rw [← hf]; exact e)⟩, ⟨n2.1, fun e => n2.2 (by rw [← hf]; exact e)⟩, n3, hP⟩⟩
theorem Row.drew {w : World} {b : Nat} {xs : List Value} (h : Row w b xs) (n : Nat) : Row (w.drewN n) b xs := ⟨h.cell, h.fro⟩
set_option maxHeartbeats 1000000 in
set_option maxRecDepth 100000 in
theorem done_walk (mb limit : Nat) (m : Mc) (w : World) (h : DM mb limit m w) (hh : m.headed = true) (hb : m.body.length ≤ 1000000) :
    Calls Tryz.prog 12 #[.pointer (some ⟨mb, 0, none⟩)] w fun e w' => e = .returned (.tuple #[]) ∧ Stepped mb limit (done m) w' ∧ Only (· = mb) w w' := by
  obtain ⟨nv, vv, last, fr, tot, hR, hN, hV, n1, n2, n3, hP⟩ := h.ex
  have c0 : w.cell? ⟨mb, 0, none⟩ = some (.int .i64 (m.at' : Int)) := hR.cell 0 _ rfl
  have f0 := hR.fro 0
  have hR1 : Row (w.setCell ⟨mb, 0, none⟩ (.int .i64 14)) mb (encM limit nv vv last fr tot { m with at' := 14 }) := hR.set 0 (.int .i64 14) (by simp [encM])
  obtain ⟨w1, HW1⟩ : ∃ w1, Hid (w.setCell ⟨mb, 0, none⟩ (.int .i64 14) = w1) := ⟨_, rfl⟩
  rw [HW1.out] at hR1
  have hk1 : Only (· = mb) w w1 := by rw [← HW1.out]; exact Only.set (S := (· = mb)) w 0 _ rfl
  have d0 : w1.cell? ⟨mb, 0, none⟩ = some (.int .i64 14) := hR1.cell 0 _ rfl
  have g0 := hR1.fro 0
  have d13 : w1.cell? ⟨mb, 13, none⟩ = some last := hR1.cell 13 _ rfl
  have d15 : w1.cell? ⟨mb, 15, none⟩ = some (.int .i64 (m.status : Int)) := hR1.cell 15 _ rfl
  obtain ⟨B, HBd⟩ : ∃ B : ByteArray, Hid (⟨m.body.toArray⟩ = B) := ⟨_, rfl⟩
  have hB : B.size = m.body.length := by rw [← HBd.out]; show m.body.toArray.size = _; simp
  have d17 : w1.cell? ⟨mb, 17, none⟩ = some (.string B) := by rw [← HBd.out]; exact hR1.cell 17 _ rfl
  have d18 : w1.cell? ⟨mb, 18, none⟩ = some fr := hR1.cell 18 _ rfl
  have HDM : Hid (∀ n, DM mb limit { m with at' := 14 } (w1.drewN n)) := fun n => DM.mk' (m := m) (hR1.drew n) rfl hN hV n1 n2 n3 (hk1.trans (Only.drew _ w1 n)) hP
  have HRi : Hid (IntV fr ∧ IntV tot) := part_ints hP
  have HRw : Hid (Row w1 mb (encM limit nv vv last fr tot { m with at' := 14 })) := hR1
  by_cases h6 : m.status = 206
  · obtain ⟨s, hs, rfl, rfl, rfl, hle, hlt⟩ := hP.2.1 ⟨hh, h6⟩
    have d15' : w1.cell? ⟨mb, 15, none⟩ = some (.int .i64 206) := by rw [d15, h6]; rfl
    clear d15 hR hR1 hN hV hP h
    by_cases heq : m.body.length = s.last - s.first + 1
    · have hd : done m = some { m with at' := 14 } := by unfold done; rw [if_neg (by simp [hs, heq])]
      rw [hd]
      have hlen : ((B.size : Nat) : Int) = (s.last : Int) - (s.first : Int) + 1 := by omega
      have hbq : (((s.last : Int) - (s.first : Int) + 1) != ((s.last : Int) - (s.first : Int) + 1)) = false := by simp
      have HR : Hid (∀ n, Stepped mb limit (some { m with at' := 14 }) (w1.drewN n)) := HDM.out
      have HK : Hid (∀ n, Only (· = mb) w (w1.drewN n)) := fun n => hk1.trans (Only.drew _ w1 n)
      clear hd heq
      go_enter Tryz.func12, Tryz.ntmps12
      go_wp2_with fail
      rw [HW1.out]
      go_quiet (fail)
      go_wp2
      go_end0
      exact ⟨rfl, HR.out _, HK.out _⟩
    · have hd : done m = none := by unfold done; rw [if_pos (by simp [hs, heq, h6])]
      rw [hd]
      have hbq : ((B.size : Int) != ((s.last : Int) - (s.first : Int) + 1)) = true := by
        rw [bne_iff_ne]; omega
      have HR : Hid (∀ n, Stepped mb limit none ((w1.drewN n).setCell ⟨mb, 0, none⟩ (.int .i64 15))) := fun n => Stepped.broke (HRw.out.drew n) HRi.out
      have HK : Hid (∀ n, Only (· = mb) w ((w1.drewN n).setCell ⟨mb, 0, none⟩ (.int .i64 15))) := fun n => (hk1.trans (Only.drew _ w1 n)).trans (Only.set (S := (· = mb)) _ 0 _ rfl)
      clear hd heq
      go_enter Tryz.func12, Tryz.ntmps12
      go_wp2_with fail
      rw [HW1.out]
      go_quiet (fail)
      go_wp2
      go_end0
      exact ⟨rfl, HR.out _, HK.out _⟩
  · have hd : done m = some { m with at' := 14 } := by unfold done; rw [if_neg (by simp [h6])]
    rw [hd]
    have hbq : ((m.status : Int) == 206) = false := by simp; omega
    have HR : Hid (∀ n, Stepped mb limit (some { m with at' := 14 }) (w1.drewN n)) := HDM.out
    have HK : Hid (∀ n, Only (· = mb) w (w1.drewN n)) := fun n => hk1.trans (Only.drew _ w1 n)
    clear hd hP h hR hR1 hN hV
    go_enter Tryz.func12, Tryz.ntmps12
    go_wp2_with fail
    rw [HW1.out]
    go_quiet (fail)
    go_wp2
    go_end0
    exact ⟨rfl, HR.out _, HK.out _⟩
end Go.Proofs.YtmodongnganbfaaGreatDoor.Rep
/- Replies: the document's sized. -/
namespace Go.Proofs.YtmodongnganbfaaGreatDoor.Rep
open Go.RowKit Go.Proofs.YtmodongnganbfaaGreatDoor Go.Proofs.YtmodongnganbfaaGreatDoor.Sha
set_option maxHeartbeats 1000000 in
set_option maxRecDepth 100000 in
theorem sized_walk (mb limit : Nat) (m : Mc) (w : World) (h : DM mb limit m w) (ha : m.all ≤ 1000000000) (hz : m.size ≤ 1000000000) :
    Calls Tryz.prog 34 #[.pointer (some ⟨mb, 0, none⟩)] w fun e w' => e = .returned (.tuple #[]) ∧ Stepped mb limit (sized limit m) w' ∧ Only (· = mb) w w' := by
  obtain ⟨nv, vv, last, fr, tot, hR, hN, hV, n1, n2, n3, hP⟩ := h.ex
  have c11 : w.cell? ⟨mb, 11, none⟩ = some (.int .i64 (m.size : Int)) := hR.cell 11 _ rfl
  have c12 : w.cell? ⟨mb, 12, none⟩ = some (.int .i64 (m.all : Int)) := hR.cell 12 _ rfl
  have f12 := hR.fro 12
  obtain ⟨w1, HW1⟩ : ∃ w1, Hid ((w.setCell ⟨mb, 12, none⟩ (.int .i64 ((m.all : Int) + (m.size : Int)))).drew = w1) := ⟨_, rfl⟩
  have hR1 : Row w1 mb (encM limit nv vv last fr tot { m with all := m.all + m.size }) := by
    rw [← HW1.out]
    have := (hR.set 12 (.int .i64 ((m.all : Int) + (m.size : Int))) (by simp [encM])).drew 1
    exact this
  have hk1 : Only (· = mb) w w1 := by rw [← HW1.out]; exact (Only.set (S := (· = mb)) w 12 _ rfl).trans (Only.drew _ _ 1)
  have d0 : w1.cell? ⟨mb, 0, none⟩ = some (.int .i64 (m.at' : Int)) := hR1.cell 0 _ rfl
  have g0 := hR1.fro 0
  have g10 := hR1.fro 10
  have d2 : w1.cell? ⟨mb, 2, none⟩ = some (.int .i64 (limit : Int)) := hR1.cell 2 _ rfl
  have d10 : w1.cell? ⟨mb, 10, none⟩ = some (.bool m.tail) := hR1.cell 10 _ rfl
  have d11 : w1.cell? ⟨mb, 11, none⟩ = some (.int .i64 (m.size : Int)) := hR1.cell 11 _ rfl
  have d12 : w1.cell? ⟨mb, 12, none⟩ = some (.int .i64 ((m.all : Int) + (m.size : Int))) := hR1.cell 12 _ rfl
  have HS : Hid (∀ n, Row (w1.drewN n) mb (encM limit nv vv last fr tot { m with all := m.all + m.size })) := fun n => hR1.drew n
  have HN : Hid (Own w mb nv ((m.fields.map (·.1)).map strL)) := hN
  have HV : Hid (Own w mb vv ((m.fields.map (·.2)).map strL)) := hV
  have HP : Hid (PartOf m last fr tot) := hP
  have H3 : Hid (∀ g, nv.ownBlock = some g → vv.ownBlock ≠ some g) := n3
  clear hR hR1 hN hV hP h n3
  by_cases h1 : limit < m.all + m.size
  · have hv : sized limit m = none := by unfold sized; rw [if_pos h1]
    rw [hv]
    have h1' : (limit : Int) < (m.all : Int) + (m.size : Int) := by omega
    have HR : Hid (∀ n, Stepped mb limit none ((w1.drewN n).setCell ⟨mb, 0, none⟩ (.int .i64 15))) := fun n => Stepped.broke (HS.out n) (part_ints HP.out)
    have HK : Hid (∀ n, Only (· = mb) w ((w1.drewN n).setCell ⟨mb, 0, none⟩ (.int .i64 15))) := fun n => (hk1.trans (Only.drew _ w1 n)).trans (Only.set (S := (· = mb)) _ 0 _ rfl)
    clear hv
    go_enter Tryz.func34, Tryz.ntmps34
    go_wp2_with fail
    go_still_tail 12, (by kernel_rfl)
    go_wp2_with fail
    rw [HW1.out]
    go_quiet (fail)
    go_wp2
    go_end0
    exact ⟨rfl, HR.out _, HK.out _⟩
  · have h1' : ¬ (limit : Int) < (m.all : Int) + (m.size : Int) := by omega
    by_cases h2 : m.size = 0
    · have hv : sized limit m = some { m with all := m.all + m.size, at' := 5, tail := true } := by unfold sized; rw [if_neg h1, if_pos h2]
      rw [hv]
      have b2 : ((m.size : Int) == 0) = true := by simp [h2]
      have HR : Hid (∀ n, Stepped mb limit (some { m with all := m.all + m.size, at' := 5, tail := true }) (((w1.drewN n).setCell ⟨mb, 0, none⟩ (.int .i64 5)).setCell ⟨mb, 10, none⟩ (.bool true))) := fun n =>
        DM.mk' (m := m) (nv := nv) (vv := vv) (last := last) (fr := fr) (tot := tot) (((HS.out n).set 0 (.int .i64 5) (by simp [encM])).set 10 (.bool true) (by simp [encM])) rfl HN.out HV.out n1 n2 H3.out (((hk1.trans (Only.drew _ w1 n)).trans (Only.set (S := (· = mb)) _ 0 _ rfl)).trans (Only.set (S := (· = mb)) _ 10 _ rfl)) HP.out
      have HK : Hid (∀ n, Only (· = mb) w (((w1.drewN n).setCell ⟨mb, 0, none⟩ (.int .i64 5)).setCell ⟨mb, 10, none⟩ (.bool true))) := fun n => ((hk1.trans (Only.drew _ w1 n)).trans (Only.set (S := (· = mb)) _ 0 _ rfl)).trans (Only.set (S := (· = mb)) _ 10 _ rfl)
      clear hv h2
      go_enter Tryz.func34, Tryz.ntmps34
      go_wp2_with fail
      go_still_tail 12, (by kernel_rfl)
      go_wp2_with fail
      rw [HW1.out]
      go_quiet (fail)
      go_wp2
      go_end0
      exact ⟨rfl, HR.out _, HK.out _⟩
    · have hv : sized limit m = some { m with all := m.all + m.size, at' := 10 } := by unfold sized; rw [if_neg h1, if_neg h2]
      rw [hv]
      have b2 : ((m.size : Int) == 0) = false := by simp; omega
      have HR : Hid (∀ n, Stepped mb limit (some { m with all := m.all + m.size, at' := 10 }) ((w1.drewN n).setCell ⟨mb, 0, none⟩ (.int .i64 10))) := fun n =>
        DM.mk' (m := m) (nv := nv) (vv := vv) (last := last) (fr := fr) (tot := tot) ((HS.out n).set 0 (.int .i64 10) (by simp [encM])) rfl HN.out HV.out n1 n2 H3.out ((hk1.trans (Only.drew _ w1 n)).trans (Only.set (S := (· = mb)) _ 0 _ rfl)) HP.out
      have HK : Hid (∀ n, Only (· = mb) w ((w1.drewN n).setCell ⟨mb, 0, none⟩ (.int .i64 10))) := fun n => (hk1.trans (Only.drew _ w1 n)).trans (Only.set (S := (· = mb)) _ 0 _ rfl)
      clear hv
      go_enter Tryz.func34, Tryz.ntmps34
      go_wp2_with fail
      go_still_tail 12, (by kernel_rfl)
      go_wp2_with fail
      rw [HW1.out]
      go_quiet (fail)
      go_wp2
      go_end0
      exact ⟨rfl, HR.out _, HK.out _⟩
end Go.Proofs.YtmodongnganbfaaGreatDoor.Rep
/- Replies: the document's hexDigit. -/
namespace Go.Proofs.YtmodongnganbfaaGreatDoor.Rep
open Go.RowKit Go.Proofs.YtmodongnganbfaaGreatDoor Go.Proofs.YtmodongnganbfaaGreatDoor.Sha
/-- A hexadecimal digit's value; -1: none. -/
def hexI (n : Nat) : Int := if 48 ≤ n ∧ n ≤ 57 then (n : Int) - 48 else if 97 ≤ n ∧ n ≤ 102 then (n : Int) - 87 else if 65 ≤ n ∧ n ≤ 70 then (n : Int) - 55 else -1
theorem hexI_of (c : UInt8) : hexI c.toNat = match hexOf c with | some v => (v : Int) | none => -1 := by
  unfold hexI hexOf isDigit
  simp only [Bool.and_eq_true, decide_eq_true_eq]
  by_cases h1 : 48 ≤ c.toNat ∧ c.toNat ≤ 57
  · rw [if_pos h1, if_pos h1]
    show (c.toNat : Int) - 48 = ((c.toNat - 48 : Nat) : Int)
    omega
  · rw [if_neg h1, if_neg h1]
    by_cases h2 : 97 ≤ c.toNat ∧ c.toNat ≤ 102
    · rw [if_pos h2, if_pos h2]
      show (c.toNat : Int) - 87 = ((c.toNat - 87 : Nat) : Int)
      omega
    · rw [if_neg h2, if_neg h2]
      by_cases h3 : 65 ≤ c.toNat ∧ c.toNat ≤ 70
      · rw [if_pos h3, if_pos h3]
        show (c.toNat : Int) - 55 = ((c.toNat - 55 : Nat) : Int)
        omega
      · rw [if_neg h3, if_neg h3]
set_option maxHeartbeats 1000000 in
theorem hex_nat (n : Nat) (w : World) (hn : n < 256) : Calls Tryz.prog 36 #[.int .u8 (n : Int)] w fun e w' => e = .returned (.int .i64 (hexI n)) ∧ w' = w := by
  by_cases h0 : n < 48
  · have a48 : ¬ (48 : Int) ≤ (n : Int) := by omega
    have a97 : ¬ (97 : Int) ≤ (n : Int) := by omega
    have a65 : ¬ (65 : Int) ≤ (n : Int) := by omega
    have hv : hexI n = -1 := by unfold hexI; repeat (first | rw [if_pos (by omega)] | rw [if_neg (by omega)])
    rw [hv]
    clear hv
    go_enter Tryz.func36, Tryz.ntmps36
    go_wp2
    go_ret
    exact ⟨by go_num, rfl⟩
  by_cases h1 : n ≤ 57
  · have a48 : (48 : Int) ≤ (n : Int) := by omega
    have b57 : (n : Int) ≤ 57 := by omega
    have hv : hexI n = (n : Int) - 48 := by unfold hexI; repeat (first | rw [if_pos (by omega)] | rw [if_neg (by omega)])
    rw [hv]
    clear hv
    go_enter Tryz.func36, Tryz.ntmps36
    go_wp2
    go_ret
    exact ⟨by go_num, rfl⟩
  by_cases h2 : n < 65
  · have a48 : (48 : Int) ≤ (n : Int) := by omega
    have b57 : ¬ (n : Int) ≤ 57 := by omega
    have a97 : ¬ (97 : Int) ≤ (n : Int) := by omega
    have a65 : ¬ (65 : Int) ≤ (n : Int) := by omega
    have hv : hexI n = -1 := by unfold hexI; repeat (first | rw [if_pos (by omega)] | rw [if_neg (by omega)])
    rw [hv]
    clear hv
    go_enter Tryz.func36, Tryz.ntmps36
    go_wp2
    go_ret
    exact ⟨by go_num, rfl⟩
  by_cases h3 : n ≤ 70
  · have a48 : (48 : Int) ≤ (n : Int) := by omega
    have b57 : ¬ (n : Int) ≤ 57 := by omega
    have a97 : ¬ (97 : Int) ≤ (n : Int) := by omega
    have a65 : (65 : Int) ≤ (n : Int) := by omega
    have b70 : (n : Int) ≤ 70 := by omega
    have hv : hexI n = (n : Int) - 55 := by unfold hexI; repeat (first | rw [if_pos (by omega)] | rw [if_neg (by omega)])
    rw [hv]
    clear hv
    go_enter Tryz.func36, Tryz.ntmps36
    go_wp2
    go_ret
    exact ⟨by go_num, rfl⟩
  by_cases h4 : n < 97
  · have a48 : (48 : Int) ≤ (n : Int) := by omega
    have b57 : ¬ (n : Int) ≤ 57 := by omega
    have a97 : ¬ (97 : Int) ≤ (n : Int) := by omega
    have a65 : (65 : Int) ≤ (n : Int) := by omega
    have b70 : ¬ (n : Int) ≤ 70 := by omega
    have hv : hexI n = -1 := by unfold hexI; repeat (first | rw [if_pos (by omega)] | rw [if_neg (by omega)])
    rw [hv]
    clear hv
    go_enter Tryz.func36, Tryz.ntmps36
    go_wp2
    go_ret
    exact ⟨by go_num, rfl⟩
  by_cases h5 : n ≤ 102
  · have a48 : (48 : Int) ≤ (n : Int) := by omega
    have b57 : ¬ (n : Int) ≤ 57 := by omega
    have a97 : (97 : Int) ≤ (n : Int) := by omega
    have b102 : (n : Int) ≤ 102 := by omega
    have hv : hexI n = (n : Int) - 87 := by unfold hexI; repeat (first | rw [if_pos (by omega)] | rw [if_neg (by omega)])
    rw [hv]
    clear hv
    go_enter Tryz.func36, Tryz.ntmps36
    go_wp2
    go_ret
    exact ⟨by go_num, rfl⟩
  have a48 : (48 : Int) ≤ (n : Int) := by omega
  have b57 : ¬ (n : Int) ≤ 57 := by omega
  have a97 : (97 : Int) ≤ (n : Int) := by omega
  have b102 : ¬ (n : Int) ≤ 102 := by omega
  have a65 : (65 : Int) ≤ (n : Int) := by omega
  have b70 : ¬ (n : Int) ≤ 70 := by omega
  have hv : hexI n = -1 := by unfold hexI; repeat (first | rw [if_pos (by omega)] | rw [if_neg (by omega)])
  rw [hv]
  clear hv
  go_enter Tryz.func36, Tryz.ntmps36
  go_wp2
  go_ret
  exact ⟨by go_num, rfl⟩
end Go.Proofs.YtmodongnganbfaaGreatDoor.Rep
