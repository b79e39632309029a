/- For names.List: a list that is sorted and then left with one of each is the list into which each was put at its place, if it was not there. Plain lists, no program. -/
import Derived.ProofKit
namespace Go.Proofs.YtfngjfnakokgmaaGreatDoor.Lst

/-- A strict order, on those that P holds of. -/
structure Strict {α : Type} (P : α → Prop) (lt : α → α → Bool) : Prop where
  irr : ∀ a, P a → lt a a = false
  tr : ∀ a b c, P a → P b → P c → lt a b = true → lt b c = true → lt a c = true
  tri : ∀ a b, P a → P b → lt a b = false → lt b a = false → a = b

variable {α : Type} [DecidableEq α]

/-- The place of the first that is behind x. -/
def place (lt : α → α → Bool) (x : α) : List α → Nat
  | [] => 0
  | y :: l => if lt x y = true then 0 else place lt x l + 1
/-- x put at its place, if it is not there yet. -/
def put (lt : α → α → Bool) (x : α) (l : List α) : List α := if x ∈ l then l else l.take (place lt x l) ++ [x] ++ l.drop (place lt x l)
/-- Each put at its place. -/
def putAll (lt : α → α → Bool) (t : List α) : List α := t.foldl (fun l x => put lt x l) []
/-- What is left of a list behind p when of neighbours that are the same the first stays. -/
def behind (p : α) : List α → List α
  | [] => []
  | y :: l => if y = p then behind y l else y :: behind y l
/-- Of neighbours that are the same the first stays. -/
def once : List α → List α
  | [] => []
  | x :: l => x :: behind x l

theorem unique {β : Type} {P : β → Prop} {lt : β → β → Bool} (h : Strict P lt) : ∀ (a b : List β), (∀ x ∈ a, P x) → (∀ x ∈ b, P x) → a.Pairwise (fun x y => lt x y = true) → b.Pairwise (fun x y => lt x y = true) → (∀ x, x ∈ a ↔ x ∈ b) → a = b
  | [], [], _, _, _, _, _ => rfl
  | [], y :: b, _, _, _, _, hm => absurd ((hm y).2 (List.mem_cons_self)) (by simp)
  | x :: a, [], _, _, _, _, hm => absurd ((hm x).1 (List.mem_cons_self)) (by simp)
  | x :: a, y :: b, ha, hb, sa, sb, hm => by
    obtain ⟨sa1, sa2⟩ := List.pairwise_cons.1 sa
    obtain ⟨sb1, sb2⟩ := List.pairwise_cons.1 sb
    have hx : P x := ha x List.mem_cons_self
    have hy : P y := hb y List.mem_cons_self
    have no : ∀ u v, P u → P v → lt u v = true → lt v u = true → False := fun u v pu pv h1 h2 => by
      have h3 := h.tr u v u pu pv pu h1 h2
      rw [h.irr u pu] at h3; cases h3
    have e : x = y := by
      rcases List.mem_cons.1 ((hm x).1 List.mem_cons_self) with e | e
      · exact e
      rcases List.mem_cons.1 ((hm y).2 List.mem_cons_self) with e' | e'
      · exact e'.symm
      exact (no x y hx hy (sa1 y e') (sb1 x e)).elim
    subst e
    have out : ∀ {l : List β}, (∀ z ∈ l, lt x z = true) → x ∉ l := fun hl hin => by
      have h1 := hl x hin
      rw [h.irr x hx] at h1; cases h1
    rw [unique h a b (fun z hz => ha z (List.mem_cons_of_mem _ hz)) (fun z hz => hb z (List.mem_cons_of_mem _ hz)) sa2 sb2]
    intro z
    constructor
    · intro hz
      rcases List.mem_cons.1 ((hm z).1 (List.mem_cons_of_mem _ hz)) with e | e
      · exact absurd (e ▸ hz) (out sa1)
      · exact e
    · intro hz
      rcases List.mem_cons.1 ((hm z).2 (List.mem_cons_of_mem _ hz)) with e | e
      · exact absurd (e ▸ hz) (out sb1)
      · exact e

theorem put_mem {lt : α → α → Bool} (x : α) (l : List α) (z : α) : z ∈ put lt x l ↔ z = x ∨ z ∈ l := by
  unfold put
  split
  · rename_i hx
    constructor
    · exact Or.inr
    · rintro (rfl | h)
      · exact hx
      · exact h
  · have e : z ∈ l ↔ z ∈ l.take (place lt x l) ∨ z ∈ l.drop (place lt x l) := by
      rw [← List.mem_append, List.take_append_drop]
    rw [List.mem_append, List.mem_append, List.mem_singleton, e]
    constructor
    · rintro ((h | h) | h)
      · exact Or.inr (Or.inl h)
      · exact Or.inl h
      · exact Or.inr (Or.inr h)
    · rintro (h | h | h)
      · exact Or.inl (Or.inr h)
      · exact Or.inl (Or.inl h)
      · exact Or.inr h

/-- Ahead of the place none is behind x; from it on all are. -/
theorem place_parts {β : Type} {P : β → Prop} {lt : β → β → Bool} (h : Strict P lt) (x : β) (hx : P x) : ∀ (l : List β), (∀ z ∈ l, P z) → l.Pairwise (fun a b => lt a b = true) →
    (∀ z ∈ l.take (place lt x l), lt x z = false) ∧ (∀ z ∈ l.drop (place lt x l), lt x z = true)
  | [], _, _ => ⟨by simp, by simp⟩
  | y :: l, hl, hs => by
    obtain ⟨s1, s2⟩ := List.pairwise_cons.1 hs
    unfold place
    by_cases hxy : lt x y = true
    · rw [if_pos hxy]
      refine ⟨by simp, ?_⟩
      intro z hz
      rw [List.drop_zero] at hz
      rcases List.mem_cons.1 hz with rfl | hz
      · exact hxy
      · exact h.tr x y z hx (hl y List.mem_cons_self) (hl z (List.mem_cons_of_mem _ hz)) hxy (s1 z hz)
    · rw [if_neg hxy, List.take_succ_cons, List.drop_succ_cons]
      obtain ⟨i1, i2⟩ := place_parts h x hx l (fun z hz => hl z (List.mem_cons_of_mem _ hz)) s2
      refine ⟨fun z hz => ?_, i2⟩
      rcases List.mem_cons.1 hz with rfl | hz
      · simpa using hxy
      · exact i1 z hz

theorem put_sorted {P : α → Prop} {lt : α → α → Bool} (h : Strict P lt) (x : α) (hx : P x) (l : List α) (hl : ∀ z ∈ l, P z) (hs : l.Pairwise (fun a b => lt a b = true)) : (put lt x l).Pairwise (fun a b => lt a b = true) := by
  unfold put
  split
  · exact hs
  · rename_i hn
    obtain ⟨i1, i2⟩ := place_parts h x hx l hl hs
    have hs' := hs
    rw [← List.take_append_drop (place lt x l) l, List.pairwise_append] at hs'
    obtain ⟨s1, s2, s3⟩ := hs'
    have hin1 : ∀ z ∈ l.take (place lt x l), z ∈ l := fun z hz => List.mem_of_mem_take hz
    have hlt : ∀ z ∈ l.take (place lt x l), lt z x = true := fun z hz => by
      by_cases hzx : lt z x = true
      · exact hzx
      · have e := h.tri x z hx (hl z (hin1 z hz)) (i1 z hz) (by simpa using hzx)
        subst e
        exact absurd (hin1 _ hz) hn
    rw [List.pairwise_append, List.pairwise_append]
    refine ⟨⟨s1, List.pairwise_singleton _ _, fun a ha b hb => ?_⟩, s2, fun a ha b hb => ?_⟩
    · rw [List.mem_singleton.1 hb]; exact hlt a ha
    · rcases List.mem_append.1 ha with ha | ha
      · exact s3 a ha b hb
      · rw [List.mem_singleton.1 ha]; exact i2 b hb

theorem putAll_facts {P : α → Prop} {lt : α → α → Bool} (h : Strict P lt) : ∀ (t l : List α), (∀ z ∈ t, P z) → (∀ z ∈ l, P z) → l.Pairwise (fun a b => lt a b = true) →
    (t.foldl (fun l x => put lt x l) l).Pairwise (fun a b => lt a b = true) ∧ ∀ z, z ∈ t.foldl (fun l x => put lt x l) l ↔ z ∈ t ∨ z ∈ l
  | [], l, _, _, hs => ⟨hs, fun z => by simp⟩
  | x :: t, l, ht, hl, hs => by
    have hx := ht x List.mem_cons_self
    obtain ⟨i1, i2⟩ := putAll_facts h t (put lt x l) (fun z hz => ht z (List.mem_cons_of_mem _ hz)) (fun z hz => by
      rcases (put_mem x l z).1 hz with rfl | hz
      · exact hx
      · exact hl z hz) (put_sorted h x hx l hl hs)
    refine ⟨i1, fun z => ?_⟩
    rw [List.foldl_cons, i2 z, put_mem, List.mem_cons]
    constructor
    · rintro (h | h | h)
      · exact Or.inl (Or.inr h)
      · exact Or.inl (Or.inl h)
      · exact Or.inr h
    · rintro ((h | h) | h)
      · exact Or.inr (Or.inl h)
      · exact Or.inl h
      · exact Or.inr (Or.inr h)

theorem behind_facts {P : α → Prop} {lt : α → α → Bool} (h : Strict P lt) : ∀ (p : α) (l : List α), P p → (∀ z ∈ l, P z) → (p :: l).Pairwise (fun a b => lt b a = false) →
    (p :: behind p l).Pairwise (fun a b => lt a b = true) ∧ ∀ z, z ∈ p :: behind p l ↔ z ∈ p :: l
  | p, [], _, _, _ => ⟨List.pairwise_singleton _ _, fun z => Iff.rfl⟩
  | p, y :: l, hp, hl, hs => by
    obtain ⟨s1, s2⟩ := List.pairwise_cons.1 hs
    have hy := hl y List.mem_cons_self
    have hl' : ∀ z ∈ l, P z := fun z hz => hl z (List.mem_cons_of_mem _ hz)
    obtain ⟨i1, i2⟩ := behind_facts h y l hy hl' s2
    unfold behind
    by_cases e : y = p
    · subst e
      rw [if_pos rfl]
      refine ⟨i1, fun z => ?_⟩
      rw [i2 z]; simp
    · rw [if_neg e]
      have hpy : lt p y = true := by
        by_cases hc : lt p y = true
        · exact hc
        · exact absurd (h.tri y p hy hp (s1 y List.mem_cons_self) (by simpa using hc)) e
      refine ⟨List.pairwise_cons.2 ⟨fun z hz => ?_, i1⟩, fun z => ?_⟩
      · rcases List.mem_cons.1 hz with rfl | hz'
        · exact hpy
        · have hzl : z ∈ y :: l := (i2 z).1 hz
          exact h.tr p y z hp hy (hl z hzl) hpy ((List.pairwise_cons.1 i1).1 z hz')
      · rw [List.mem_cons, i2 z, ← List.mem_cons]

/-- Sorted, and left with one of each: each put at its place. -/
theorem once_sorted {P : α → Prop} {lt : α → α → Bool} (h : Strict P lt) (t s : List α) (ht : ∀ z ∈ t, P z) (hm : ∀ z, z ∈ s ↔ z ∈ t) (hs : s.Pairwise (fun a b => lt b a = false)) : once s = putAll lt t := by
  obtain ⟨p1, p2⟩ := putAll_facts h t [] ht (by simp) List.Pairwise.nil
  have hsP : ∀ z ∈ s, P z := fun z hz => ht z ((hm z).1 hz)
  have hpP : ∀ z ∈ putAll lt t, P z := fun z hz => by
    rcases (p2 z).1 hz with h | h
    · exact ht z h
    · cases h
  have key : (once s).Pairwise (fun a b => lt a b = true) ∧ ∀ z, z ∈ once s ↔ z ∈ s := by
    cases s with
    | nil => exact ⟨List.Pairwise.nil, fun z => Iff.rfl⟩
    | cons x l => exact behind_facts h x l (hsP x List.mem_cons_self) (fun z hz => hsP z (List.mem_cons_of_mem _ hz)) hs
  refine unique h _ _ (fun z hz => hsP z ((key.2 z).1 hz)) hpP key.1 p1 fun z => ?_
  rw [key.2 z, hm z]
  unfold putAll
  rw [p2 z]; simp
end Go.Proofs.YtfngjfnakokgmaaGreatDoor.Lst
