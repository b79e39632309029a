/- slices.SortFunc over the versions that were found: the row holds the same ones, in order. -/
import Derived.Test.YtfngjfnakokgmaaGreatDoorListCmp
import Derived.Test.YtfngjfnakokgmaaGreatDoorListMath
import Derived.Test.YtfngjfnakokgmaaGreatDoorShelf3
import Derived.Lib.SliceRun
namespace Go.Proofs.YtfngjfnakokgmaaGreatDoor
open Go.RowKit Go.Sort

/-- The numbers and marks of a text; of one that is no version: nothing. -/
def xOf (l : List UInt8) : List (List UInt8) × List (List UInt8) := (parseV l).getD ([], [])
theorem xOf_some {l : List UInt8} {x : List (List UInt8) × List (List UInt8)} (h : parseV l = some x) : xOf l = x := by unfold xOf; rw [h]; rfl
theorem xOf_parse {l : List UInt8} (h : parseV l ≠ none) : parseV l = some (xOf l) := by
  cases hp : parseV l with
  | none => exact absurd hp h
  | some x => rw [xOf_some hp]
/-- a is less than b, of texts that are versions. -/
def ltT (a b : List UInt8) : Bool := decide (cmpV (xOf a) (xOf b) < 0)
theorem ltT_strict : Lst.Strict (fun l => parseV l ≠ none) ltT where
  irr := fun a ha => by
    have h := parse_ok (xOf_parse ha)
    have := (cmpV_good.eq0 (xOf a) (xOf a) h h).2 rfl
    unfold ltT; rw [this]; rfl
  tr := fun a b c ha hb hc h1 h2 => by
    have ga := parse_ok (xOf_parse ha)
    have gb := parse_ok (xOf_parse hb)
    have gc := parse_ok (xOf_parse hc)
    unfold ltT at *
    simp only [decide_eq_true_eq] at *
    have h3 := cmpV_good.tr _ _ _ ga gb gc (by omega) (by omega : cmpV (xOf b) (xOf c) ≤ 0)
    rcases Int.lt_or_eq_of_le h3 with h | h
    · exact h
    · have e := (cmpV_good.eq0 _ _ ga gc).1 h
      rw [e] at h1
      have := cmpV_good.sym (xOf b) (xOf c)
      omega
  tri := fun a b ha hb h1 h2 => by
    have ga := parse_ok (xOf_parse ha)
    have gb := parse_ok (xOf_parse hb)
    unfold ltT at *
    simp only [decide_eq_false_iff_not] at *
    have hs := cmpV_good.sym (xOf a) (xOf b)
    have e := (cmpV_good.eq0 _ _ ga gb).1 (by omega)
    have h3 := xOf_parse ha
    rw [e] at h3
    exact parse_inj h3 (xOf_parse hb)
/-- What was found: a version's text, and what it was read as. -/
def Good (w : World) (e : Ent) : Prop := parseV e.t.data.toList ≠ none ∧ VerIs w e.ver (xOf e.t.data.toList)
/-- The row at block g holds these, and may be written. -/
def RowOf (g : Nat) (d : List Ent) (w : World) : Prop := ∀ j (hj : j < d.length), ∀ i, i < 5 → w.cell? ⟨g, j * 5 + i, none⟩ = (d[j].enc)[i]? ∧ w.frozen? ⟨g, j * 5 + i, none⟩ = false
abbrev GEnt (w : World) := { e : Ent // Good w e }
def gcf (w : World) (a b : GEnt w) : Int := cmpV (xOf a.1.t.data.toList) (xOf b.1.t.data.toList)
theorem gcf_lt (w : World) (a b : GEnt w) : ltOf (gcf w) a b = ltT a.1.t.data.toList b.1.t.data.toList := rfl
theorem gcf_swo (w : World) : SWO (ltOf (gcf w)) where
  irrefl := fun x => by rw [gcf_lt]; exact ltT_strict.irr _ x.2.1
  trans := fun x y z h1 h2 => by rw [gcf_lt] at *; exact ltT_strict.tr _ _ _ x.2.1 y.2.1 z.2.1 h1 h2
  ntrans := fun x y z h1 h2 => by
    rw [gcf_lt] at *
    have ga := parse_ok (xOf_parse x.2.1)
    have gb := parse_ok (xOf_parse y.2.1)
    have gc := parse_ok (xOf_parse z.2.1)
    unfold ltT at *
    simp only [decide_eq_false_iff_not] at *
    have s1 := cmpV_good.sym (xOf x.1.t.data.toList) (xOf y.1.t.data.toList)
    have s2 := cmpV_good.sym (xOf y.1.t.data.toList) (xOf z.1.t.data.toList)
    have s3 := cmpV_good.sym (xOf x.1.t.data.toList) (xOf z.1.t.data.toList)
    have := cmpV_good.tr _ _ _ gc gb ga (by omega : cmpV (xOf z.1.t.data.toList) (xOf y.1.t.data.toList) ≤ 0) (by omega)
    omega
theorem isAggL (w : World) : (isAgg 94).run Tryz.prog w = .ok true w := by kernel_rfl
theorem sizeOfL (w : World) : (Go.sizeOf 94).run Tryz.prog w = .ok 5 w := by kernel_rfl
theorem verIs_turned {w w' : World} {g : Nat} {vv : Value} {x : List (List UInt8) × List (List UInt8)} (h : VerIs w vv x) (hg : w.grownBy w' (some g)) (hb : ∃ c, w.heap[g]? = some (.cells c 94 (0, 0))) : VerIs w' vv x := by
  obtain ⟨p0, p1, p2, mv, L, e1, e2, base, hl, hm⟩ := h
  refine ⟨p0, p1, p2, mv, L, e1, e2, base, hl, hm.kept hg ?_⟩
  rcases hm.2 with ⟨rfl, _⟩ | ⟨g', cap, cur, rfl, _, hg', _⟩
  · left; rfl
  · right
    intro e
    simp only [Value.ownBlock, Option.some.injEq] at e
    subst e
    obtain ⟨c, hc⟩ := hb
    rw [hc] at hg'
    cases hg'
theorem turned_sort {α : Type} [Inhabited α] (enc : α → List Value) (w : World) (g n : Nat) (d : Array α) (os : Array Obj) : w.grownBy (sortWorldK enc 5 w g 0 n d os) (some g) := by
  refine ⟨rfl, rfl, rfl, size_sortWorldK_c enc 5 w g 0 n d os, fun k hk hne => ?_⟩
  have hkg : k ≠ g := fun e => hne (by rw [e])
  have hk2 : k < (putRowK enc 5 (Sort.ahead w n) g 0 d).heap.size := by
    unfold putRowK
    rw [size_putRow]; exact hk
  unfold sortWorldK grow
  show (_ ++ os)[k]? = _
  rw [Array.getElem?_append_left hk2]
  unfold putRowK putRow mapBlock
  show (Array.modify _ _ _)[k]? = _
  rw [Array.getElem?_modify]
  rw [if_neg (fun e => hkg e.symm)]
  rfl
end Go.Proofs.YtfngjfnakokgmaaGreatDoor
/- slices.SortFunc over the versions that were found: the call. -/
namespace Go.Proofs.YtfngjfnakokgmaaGreatDoor
open Go.RowKit Go.Sort

theorem enc_len (e : Ent) : e.enc.length = 5 := rfl
theorem enc_one (e : Ent) : ∀ v ∈ e.enc, v.oneCell' = true := by
  intro v hv
  unfold Ent.enc at hv
  simp only [List.mem_cons, List.not_mem_nil, or_false] at hv
  rcases hv with rfl | rfl | rfl | rfl | rfl <;> rfl
theorem holds_of_row {w W : World} [Inhabited (GEnt w)] {g : Nat} (D : Array (GEnt w)) (h : RowOf g (D.toList.map (·.1)) W) : HoldsK (fun a : GEnt w => a.1.enc) 5 W g 0 D := by
  intro t ht
  have ht' : t < D.size * 5 := by simpa using ht
  have hj : t / 5 < D.size := by omega
  have hi : t % 5 < 5 := Nat.mod_lt _ (by decide)
  obtain ⟨h1, h2⟩ := h (t / 5) (by simpa using hj) (t % 5) hi
  rw [show t / 5 * 5 + t % 5 = t by omega] at h1 h2
  rw [Nat.zero_add]
  refine ⟨?_, h2⟩
  rw [h1, get_flatK _ _ _ t ht']
  have e : D[t / 5]! = D[t / 5] := getElem!_pos D _ hj
  rw [e]
  have e2 : (D.toList.map (·.1))[t / 5]'(by simpa using hj) = D[t / 5].1 := by simp
  rw [e2]
  show _ = some (D[t / 5].1.enc[t % 5]!)
  rw [List.getElem?_eq_getElem (by rw [enc_len]; exact hi), getElem!_pos _ _ (by rw [enc_len]; exact hi)]
theorem row_of_holds {w W : World} [Inhabited (GEnt w)] {g : Nat} (D : Array (GEnt w)) (h : HoldsK (fun a : GEnt w => a.1.enc) 5 W g 0 D) : RowOf g (D.toList.map (·.1)) W := by
  intro j hj i hi
  have hj' : j < D.size := by simpa using hj
  have hlt : j * 5 + i < D.size * 5 := by omega
  obtain ⟨h1, h2⟩ := h (j * 5 + i) (by simpa using hlt)
  rw [Nat.zero_add] at h1 h2
  refine ⟨?_, h2⟩
  rw [h1, get_flatK _ _ _ _ hlt]
  rw [show (j * 5 + i) / 5 = j by omega, show (j * 5 + i) % 5 = i by omega, getElem!_pos D _ hj']
  have e2 : (D.toList.map (·.1))[j] = D[j].1 := by simp
  rw [e2]
  show some (D[j].1.enc[i]!) = _
  rw [List.getElem?_eq_getElem (by rw [enc_len]; exact hi), getElem!_pos _ _ (by rw [enc_len]; exact hi)]
theorem sort_walk (w : World) (g cap : Nat) (d : List Ent) (hne : d ≠ []) (hd : ∀ e ∈ d, Good w e) (hrow : RowOf g d w) (hb : ∃ c, w.heap[g]? = some (.cells c 94 (0, 0))) (hsz : d.length < 4611686018427387904) :
    Calls Tryz.prog 31 #[.slice (some ⟨g, 0, none⟩) d.length cap, .func (.func 32) #[] #[]] w fun e w' =>
      e = .returned (.tuple #[]) ∧ ∃ d' : List Ent, d'.Perm d ∧ d'.Pairwise (fun a b => ltT b.t.data.toList a.t.data.toList = false) ∧ RowOf g d' w' ∧ w.grownBy w' (some g) := by
  obtain ⟨e0, he0⟩ := List.exists_mem_of_ne_nil d hne
  haveI : Inhabited (GEnt w) := ⟨⟨e0, hd e0 he0⟩⟩
  obtain ⟨D, hD⟩ : ∃ D : Array (GEnt w), D.toList.map (·.1) = d := ⟨(d.attach.map fun e => (⟨e.1, hd e.1 e.2⟩ : GEnt w)).toArray, by simp⟩
  have hsize : D.size = d.length := by rw [← hD]; simp
  have hH : HoldsK (fun a : GEnt w => a.1.enc) 5 w g 0 D := holds_of_row D (by rw [hD]; exact hrow)
  have hgl : g < w.heap.size := by obtain ⟨c, hc⟩ := hb; exact lt_of_block hc
  have eg : ∀ args w, (callFunc 32 args).run Tryz.prog w = .ok (.enter 32 args) w := enters_of Tryz.func32 (by kernel_rfl) rfl
  have hcmp : CmpLays Tryz.prog 32 #[] (fun a : GEnt w => a.1.enc) 5 (gcf w) g 0 D.size w := fun m os dk _ x y =>
    compareListed_walk x.1 y.1 _ _ _ (verIs_turned x.2.2 (turned_sort _ w g m dk os) hb) (verIs_turned y.2.2 (turned_sort _ w g m dk os) hb)
  have hcon := AnyQ.slices_SortFunc Tryz.laysSort 5 isAggL sizeOfL (fun a : GEnt w => a.1.enc) (fun x => enc_len x.1) (fun x => enc_one x.1) (gcf w) (gcf_swo w) 32 #[] g 0 cap D w eg hcmp hH hgl (by rw [hsize]; exact hsz)
  rw [hsize] at hcon
  refine hcon.mono ?_
  rintro e w' ⟨rfl, d', n, os, hp, hs, rfl⟩
  obtain ⟨hp1, _, hp2⟩ := hp
  have hsz' : d'.size = D.size := hp1
  refine ⟨rfl, d'.toList.map (·.1), ?_, ?_, ?_, turned_sort _ w g n d' os⟩
  · rw [← hD]
    refine List.Perm.map _ ?_
    have q1 : (d'.extract 0 d.length).toList = d'.toList := by rw [← hsize, ← hsz']; simp
    have q2 : (D.extract 0 d.length).toList = D.toList := by rw [← hsize]; simp
    rw [q1, q2] at hp2
    exact hp2
  · rw [List.pairwise_map, List.pairwise_iff_getElem]
    intro i j hi hj hij
    have hi' : i < d'.size := by simpa using hi
    have hj' : j < d'.size := by simpa using hj
    have := hs i j (Nat.zero_le _) hij (by omega)
    rw [gcf_lt, getElem!_pos d' _ hj', getElem!_pos d' _ hi'] at this
    simpa using this
  · exact row_of_holds d' (holdsK_sortWorldK_c _ 5 w g 0 D d' n os hH hgl hsz')
end Go.Proofs.YtfngjfnakokgmaaGreatDoor
/- Of neighbours of one text the first stays: the places that stay, and what is left. Plain lists. -/
namespace Go.Proofs.YtfngjfnakokgmaaGreatDoor
open Go.RowKit Go.Sort
abbrev Ent.txt (e : Ent) : List UInt8 := e.t.data.toList
/-- Does the j-th stay? -/
def stays (T : List (List UInt8)) (j : Nat) : Bool := j == 0 || decide (T[j]? ≠ T[j - 1]?)
/-- What is left of the first i. -/
def kept (d : List Ent) : Nat → List Ent
  | 0 => []
  | i + 1 => if stays (d.map Ent.txt) i then kept d i ++ (d[i]?).toList else kept d i
def keptT (T : List (List UInt8)) : Nat → List (List UInt8)
  | 0 => []
  | i + 1 => if stays T i then keptT T i ++ (T[i]?).toList else keptT T i
theorem kept_map (d : List Ent) : ∀ i, (kept d i).map Ent.txt = keptT (d.map Ent.txt) i
  | 0 => rfl
  | i + 1 => by
    unfold kept keptT
    split
    · rw [List.map_append, kept_map d i, List.getElem?_map]
      cases d[i]? <;> rfl
    · exact kept_map d i
theorem kept_len (d : List Ent) : ∀ i, (kept d i).length ≤ i
  | 0 => Nat.le_refl _
  | i + 1 => by
    have := kept_len d i
    unfold kept
    split
    · have : (d[i]?).toList.length ≤ 1 := by cases d[i]? <;> simp
      rw [List.length_append]; omega
    · omega
theorem kept_yes {d : List Ent} {i : Nat} (hi : i < d.length) (h : stays (d.map Ent.txt) i = true) : kept d (i + 1) = kept d i ++ [d[i]] := by
  rw [kept, if_pos h, List.getElem?_eq_getElem hi]; rfl
theorem kept_no {d : List Ent} {i : Nat} (h : stays (d.map Ent.txt) i = false) : kept d (i + 1) = kept d i := by
  rw [kept, if_neg (by rw [h]; decide)]
theorem stays_iff {d : List Ent} {i : Nat} (hi : i + 1 < d.length) : stays (d.map Ent.txt) (i + 1) = !(d[i + 1].txt == d[i].txt) := by
  unfold stays
  rw [List.getElem?_map, List.getElem?_map, List.getElem?_eq_getElem hi, show i + 1 - 1 = i by omega, List.getElem?_eq_getElem (show i < d.length by omega)]
  show ((i + 1 == 0) || decide (some (d[i + 1].txt) ≠ some (d[i].txt))) = _
  generalize d[i + 1].txt = a
  generalize d[i].txt = b
  by_cases h : a = b <;> simp [h]
/-- As long as all stay, all are left. -/
theorem kept_all {d : List Ent} : ∀ i, i ≤ d.length → (∀ j, j < i → stays (d.map Ent.txt) j = true) → kept d i = d.take i
  | 0, _, _ => by simp [kept]
  | i + 1, hi, h => by
    rw [kept_yes (by omega) (h i (by omega)), kept_all i (by omega) (fun j hj => h j (by omega)), List.take_succ_eq_append_getElem (by omega)]
theorem stays_zero (T : List (List UInt8)) : stays T 0 = true := rfl
theorem keptT_cons_aux (x : List UInt8) (T : List (List UInt8)) : ∀ i, i ≤ T.length → keptT (x :: T) (i + 1) = x :: (Lst.behind x (T.take i))
  | 0, _ => by simp [keptT, stays, Lst.behind]
  | i + 1, hi => by
    have ih := keptT_cons_aux x T i (by omega)
    rw [keptT, ih]
    have hb : ∀ (l : List (List UInt8)) (p y : List UInt8), Lst.behind p (l ++ [y]) = Lst.behind p l ++ (if y = (p :: l).getLast (by simp) then [] else [y]) := by
      intro l
      induction l with
      | nil => intro p y; by_cases h : y = p <;> simp [Lst.behind, h]
      | cons z l ih2 =>
        intro p y
        rw [List.cons_append, Lst.behind, Lst.behind]
        have e : (p :: z :: l).getLast (by simp) = (z :: l).getLast (by simp) := by simp
        rw [e]
        split
        · exact ih2 z y
        · rw [ih2 z y, List.cons_append]
    have hlt : i < T.length := by omega
    rw [List.take_succ_eq_append_getElem hlt, hb]
    have hs : stays (x :: T) (i + 1) = !decide (T[i] = (x :: T.take i).getLast (by simp)) := by
      unfold stays
      have e1 : (x :: T)[i + 1]? = some T[i] := by simp [hlt]
      have e2 : (x :: T)[i + 1 - 1]? = some ((x :: T.take i).getLast (by simp)) := by
        rw [show i + 1 - 1 = i by omega, List.getLast_eq_getElem]
        have hl : (x :: T.take i).length - 1 = i := by simp; omega
        have : (x :: T)[i]? = (x :: T.take i)[i]? := by
          cases i with
          | zero => rfl
          | succ m => simp
        rw [this, List.getElem?_eq_getElem (by simp; omega)]
        congr 1
        simp only [hl]
      rw [e1, e2]
      by_cases h : T[i] = (x :: T.take i).getLast (by simp) <;> simp [h]
    rw [hs]
    by_cases h : T[i] = (x :: T.take i).getLast (by simp)
    · rw [if_neg (by simp [h]), if_pos h, List.append_nil]
    · rw [if_pos (by simp [h]), if_neg h]
      simp [hlt]
theorem keptT_once (T : List (List UInt8)) : keptT T T.length = Lst.once T := by
  cases T with
  | nil => rfl
  | cons x T =>
    have := keptT_cons_aux x T T.length (Nat.le_refl _)
    rw [List.length_cons, this, List.take_length]; rfl
end Go.Proofs.YtfngjfnakokgmaaGreatDoor
/- slices.CompactFunc over the versions that were found: its row in memory. -/
namespace Go.Proofs.YtfngjfnakokgmaaGreatDoor
open Go.RowKit Go.Sort
theorem row_cells {g : Nat} {d : List Ent} {w : World} (h : RowOf g d w) (j : Nat) (hj : j < d.length) :
    w.cell? ⟨g, j * 5, none⟩ = some (.string d[j].t) ∧ w.cell? ⟨g, j * 5 + 1, none⟩ = some (.int .i64 d[j].q0) ∧ w.cell? ⟨g, j * 5 + 2, none⟩ = some (.int .i64 d[j].q1) ∧ w.cell? ⟨g, j * 5 + 3, none⟩ = some (.int .i64 d[j].q2) ∧ w.cell? ⟨g, j * 5 + 4, none⟩ = some (.slice d[j].ao d[j].n d[j].cap) :=
  ⟨(h j hj 0 (by decide)).1, (h j hj 1 (by decide)).1, (h j hj 2 (by decide)).1, (h j hj 3 (by decide)).1, (h j hj 4 (by decide)).1⟩
theorem row_grown {g : Nat} {d : List Ent} {w : World} (h : RowOf g d w) (hg : g < w.heap.size) (n : Nat) (os : Array Obj) : RowOf g d (grow (w.drewN n) os) := fun j hj i hi => by
  obtain ⟨h1, h2⟩ := h j hj i hi
  refine ⟨?_, ?_⟩
  · rw [cell?_grow _ _ _ (by exact hg)]; exact h1
  · have e : (grow (w.drewN n) os).heap[g]? = w.heap[g]? := by
      show (w.heap ++ os)[g]? = _
      rw [Array.getElem?_append_left hg]
    have e2 : (grow (w.drewN n) os).frozen? ⟨g, j * 5 + i, none⟩ = w.frozen? ⟨g, j * 5 + i, none⟩ := by simp only [World.frozen?, e]
    rw [e2]; exact h2
theorem grown_grow {w : World} (n : Nat) (os : Array Obj) : w.grownBy (grow (w.drewN n) os) none := by
  refine ⟨rfl, rfl, rfl, by show w.heap.size ≤ (w.heap ++ os).size; simp, fun k hk _ => ?_⟩
  show (w.heap ++ os)[k]? = _
  rw [Array.getElem?_append_left hk]
theorem wrap_pred (m : Nat) (h : m ≤ 2097152) : IntKind.i64.wrap (((m + 1 : Nat) : Int) - 1) = (m : Int) := by
  have e : ((m + 1 : Nat) : Int) - 1 = (m : Int) := by omega
  rw [e]
  rw [IntKind.wrap_i64]; omega
theorem zero_mem {n : Nat} {v : Value} (h : v ∈ (Builtin.zeroCells #[.string ⟨#[]⟩, .int .i64 0, .int .i64 0, .int .i64 0, .slice none 0 0] n).toList) : v.oneCell' = true := by
  simp only [Builtin.zeroCells] at h
  simp at h
  obtain ⟨i, hi, rfl⟩ := h
  have h5 : i % 5 < 5 := Nat.mod_lt _ (by decide)
  match i % 5, h5 with
  | 0, _ => rfl
  | 1, _ => rfl
  | 2, _ => rfl
  | 3, _ => rfl
  | 4, _ => rfl
theorem zero_len (n : Nat) : (Builtin.zeroCells #[.string ⟨#[]⟩, .int .i64 0, .int .i64 0, .int .i64 0, .slice none 0 0] n).toList.length = n * 5 := by simp [Builtin.zeroCells]
theorem run_clear5 (w : World) (ty : TypeId) (b o n c : Nat) (hn : 0 < n) (hc : ∀ j, j < n * 5 → (w.cell? ⟨b, o + j, none⟩).isSome = true) (hf : ∀ j, j < n * 5 → w.frozen? ⟨b, o + j, none⟩ = false) :
    (Builtin.clear_ #[86] ty #[.slice (some ⟨b, o, none⟩) n c]).run Tryz.prog w = .ok (.tuple #[]) (w.setCells b o (Builtin.zeroCells #[.string ⟨#[]⟩, .int .i64 0, .int .i64 0, .int .i64 0, .slice none 0 0] n).toList) := by
  obtain ⟨zc, hzc⟩ : ∃ zc, (Builtin.zeroCells #[.string ⟨#[]⟩, .int .i64 0, .int .i64 0, .int .i64 0, .slice none 0 0] n).toList = zc := ⟨_, rfl⟩
  have hl : zc.length = n * 5 := by rw [← hzc]; exact zero_len n
  have hst := run_storeCells_cells (P := Tryz.prog) b o zc 0 w (by simpa [hl] using hc) (by simpa [hl] using hf) (by intro v hv; rw [← hzc] at hv; exact zero_mem hv)
  simp only [Nat.add_zero] at hst
  obtain ⟨m, rfl⟩ : ∃ m, n = m + 1 := ⟨n - 1, by omega⟩
  rw [hzc]
  simp [Builtin.clear_, run_underlying Tryz.underlying86, Value.cells, hzc, hst]
theorem grown_trans {a b c : World} {r : Option Nat} (h : a.grownBy b r) (k : b.grownBy c r) : a.grownBy c r :=
  ⟨k.os.trans h.os, k.tape.trans h.tape, k.output.trans h.output, Nat.le_trans h.size k.size, fun i hi hn => (k.block i (Nat.lt_of_lt_of_le hi h.size) hn).trans (h.block i hi hn)⟩
theorem grown_weak {a b : World} (h : a.grownBy b none) (g : Nat) : a.grownBy b (some g) := ⟨h.os, h.tape, h.output, h.size, fun i hi _ => h.block i hi (by simp)⟩
theorem enc_get (e : Ent) (i : Nat) (hi : i < 5) : e.enc[i]? = some (e.enc[i]'(by rw [enc_len]; exact hi)) := List.getElem?_eq_getElem _
theorem row_some {g : Nat} {e : List Ent} {w : World} (h : RowOf g e w) (t : Nat) (ht : t < e.length * 5) : (w.cell? ⟨g, t, none⟩).isSome = true ∧ w.frozen? ⟨g, t, none⟩ = false := by
  obtain ⟨h1, h2⟩ := h (t / 5) (by omega) (t % 5) (Nat.mod_lt _ (by decide))
  rw [show t / 5 * 5 + t % 5 = t by omega] at h1 h2
  refine ⟨?_, h2⟩
  rw [h1, enc_get _ _ (Nat.mod_lt _ (by decide))]; rfl
theorem row_set {g : Nat} {e : List Ent} {w : World} (h : RowOf g e w) (kk : Nat) (hk : kk < e.length) (x : Ent) : RowOf g (e.set kk x) (w.setCells g (kk * 5) x.enc) := by
  intro j hj i hi
  have hj' : j < e.length := by simpa using hj
  obtain ⟨h1, h2⟩ := h j hj' i hi
  refine ⟨?_, by rw [World.frozen?_setCells]; exact h2⟩
  by_cases e1 : j = kk
  · subst e1
    have hin := World.cell?_setCells_in g x.enc (j * 5) w (fun i hi => (row_some h (j * 5 + i) (by rw [enc_len] at hi; omega)).1) i (by rw [enc_len]; exact hi)
    rw [hin]
    simp only [List.getElem_set_self]
    rw [enc_get _ _ hi]
  · rw [World.cell?_setCells_out g x.enc (kk * 5) w ⟨g, j * 5 + i, none⟩ (fun _ _ => by rw [enc_len]; show j * 5 + i < _ ∨ _ ≤ j * 5 + i; omega)]
    rw [h1]
    have e2 : ¬ kk = j := fun q => e1 q.symm
    simp only [List.getElem_set, if_neg e2]
theorem row_take {g : Nat} {e : List Ent} {w : World} (h : RowOf g e w) (kk : Nat) (zs : List Value) : RowOf g (e.take kk) (w.setCells g (kk * 5) zs) := by
  intro j hj i hi
  have hj1 : j < kk := by simp at hj; omega
  have hj' : j < e.length := by simp at hj; omega
  obtain ⟨h1, h2⟩ := h j hj' i hi
  refine ⟨?_, by rw [World.frozen?_setCells]; exact h2⟩
  rw [World.cell?_setCells_out g zs (kk * 5) w ⟨g, j * 5 + i, none⟩ (fun _ _ => by left; show j * 5 + i < _; omega), h1]
  simp
theorem grown_setCells (g : Nat) : ∀ (vs : List Value) (o : Nat) (w : World), w.grownBy (w.setCells g o vs) (some g)
  | [], _, w => ⟨rfl, rfl, rfl, Nat.le_refl _, fun _ _ _ => rfl⟩
  | v :: vs, o, w => by
    have h1 : w.grownBy (w.setCell ⟨g, o, none⟩ v) (some g) := ⟨rfl, rfl, rfl, by simp, fun k _ hne => Below.heap_setCell w ⟨g, o, none⟩ v k (fun e => hne (by rw [e]))⟩
    exact grown_trans h1 (grown_setCells g vs (o + 1) _)
/-- What the inner loop keeps. -/
def CRel (w : World) (g k : Nat) (d : List Ent) (v5 v7 : Value) (wr : World) : Prop :=
  ∃ kk k2 : Nat, v5 = .int .i64 (kk : Int) ∧ v7 = .int .i64 (k2 : Int) ∧ 1 ≤ k2 ∧ k + k2 ≤ d.length ∧ kk + 1 ≤ k + k2 ∧ kk = (kept d (k + k2)).length ∧ RowOf g (kept d (k + k2) ++ d.drop kk) wr ∧ w.grownBy wr (some g)
end Go.Proofs.YtfngjfnakokgmaaGreatDoor
