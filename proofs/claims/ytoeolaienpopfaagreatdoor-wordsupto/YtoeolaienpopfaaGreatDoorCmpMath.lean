/- Orders told by -1, 0, 1: of numbers, of lists, of pairs; that each is an order. -/
namespace Go.Proofs.YtoeolaienpopfaaGreatDoor
/-- c tells an order of the things for which S holds: turned round it is turned round; 0 just between equal ones; what is not above another that is not above a third is not above that. -/
structure Cmp {α : Type} (S : α → Prop) (c : α → α → Int) : Prop where
  rng : ∀ x y, c x y = -1 ∨ c x y = 0 ∨ c x y = 1
  sym : ∀ x y, c y x = - c x y
  eq0 : ∀ x y, S x → S y → (c x y = 0 ↔ x = y)
  tr : ∀ x y z, S x → S y → S z → c x y ≤ 0 → c y z ≤ 0 → c x z ≤ 0

/-- Two numbers. -/
def cmpI (x y : Int) : Int := if x < y then -1 else if x > y then 1 else 0
theorem cmpI_good : Cmp (fun _ => True) cmpI where
  rng := by intro x y; unfold cmpI; split <;> (try split) <;> simp
  sym := by intro x y; unfold cmpI; repeat' split
            all_goals omega
  eq0 := by intro x y _ _; unfold cmpI; repeat' split
            all_goals (constructor <;> intro h <;> omega)
  tr := by intro x y z _ _ _; unfold cmpI; repeat' split
           all_goals omega

/-- Lists, by their first difference; a list is less than its longer ones. -/
def lexC {α : Type} (c : α → α → Int) : List α → List α → Int
  | [], [] => 0
  | [], _ :: _ => -1
  | _ :: _, [] => 1
  | x :: xs, y :: ys => if c x y = 0 then lexC c xs ys else c x y

theorem lexC_good {α : Type} {S : α → Prop} {c : α → α → Int} (h : Cmp S c) : Cmp (fun l => ∀ x ∈ l, S x) (lexC c) where
  rng := by
    intro x
    induction x with
    | nil => intro y; cases y <;> simp [lexC]
    | cons a x ih =>
      intro y
      cases y with
      | nil => simp [lexC]
      | cons b y =>
        rw [lexC]
        split
        · exact ih y
        · exact h.rng a b
  sym := by
    intro x
    induction x with
    | nil => intro y; cases y <;> simp [lexC]
    | cons a x ih =>
      intro y
      cases y with
      | nil => simp [lexC]
      | cons b y =>
        have hs := h.sym a b
        rw [lexC, lexC]
        by_cases h0 : c a b = 0
        · rw [if_pos h0, if_pos (by omega)]; exact ih y
        · rw [if_neg h0, if_neg (by omega)]; exact hs
  eq0 := by
    intro x
    induction x with
    | nil => intro y _ _; cases y <;> simp [lexC]
    | cons a x ih =>
      intro y hx hy
      cases y with
      | nil => simp [lexC]
      | cons b y =>
        have he := h.eq0 a b (hx a (by simp)) (hy b (by simp))
        rw [lexC]
        by_cases h0 : c a b = 0
        · rw [if_pos h0, ih y (fun z hz => hx z (by simp [hz])) (fun z hz => hy z (by simp [hz])), List.cons.injEq]
          exact ⟨fun e => ⟨he.1 h0, e⟩, fun e => e.2⟩
        · rw [if_neg h0, List.cons.injEq]
          exact ⟨fun e => absurd e h0, fun e => absurd (he.2 e.1) h0⟩
  tr := by
    intro x
    induction x with
    | nil =>
      intro y z _ _ _ h1 h2
      cases z <;> simp [lexC]
    | cons a x ih =>
      intro y z hx hy hz h1 h2
      cases y with
      | nil => simp [lexC] at h1
      | cons b y =>
        cases z with
        | nil => simp [lexC] at h2
        | cons d z =>
          have sa := hx a (by simp)
          have sb := hy b (by simp)
          have sd := hz d (by simp)
          rw [lexC] at h1 h2 ⊢
          by_cases e1 : c a b = 0
          · rw [if_pos e1] at h1
            obtain rfl := (h.eq0 a b sa sb).1 e1
            by_cases e2 : c a d = 0
            · rw [if_pos e2] at h2 ⊢
              exact ih y z (fun t ht => hx t (by simp [ht])) (fun t ht => hy t (by simp [ht])) (fun t ht => hz t (by simp [ht])) h1 h2
            · rw [if_neg e2] at h2 ⊢; exact h2
          · rw [if_neg e1] at h1
            by_cases e2 : c b d = 0
            · obtain rfl := (h.eq0 b d sb sd).1 e2
              rw [if_neg e1]; exact h1
            · rw [if_neg e2] at h2
              have ht := h.tr a b d sa sb sd h1 h2
              by_cases e3 : c a d = 0
              · obtain rfl := (h.eq0 a d sa sd).1 e3
                have := h.sym a b
                omega
              · rw [if_neg e3]; exact ht

/-- Of pairs: by the first parts, then by the second. -/
def pairC {α β : Type} (c : α → α → Int) (d : β → β → Int) (x y : α × β) : Int := if c x.1 y.1 = 0 then d x.2 y.2 else c x.1 y.1
theorem pairC_good {α β : Type} {S : α → Prop} {T : β → Prop} {c : α → α → Int} {d : β → β → Int} (h : Cmp S c) (k : Cmp T d) : Cmp (fun x => S x.1 ∧ T x.2) (pairC c d) where
  rng := by intro x y; unfold pairC; split; exact k.rng _ _; exact h.rng _ _
  sym := by
    intro x y
    have hs := h.sym x.1 y.1
    unfold pairC
    by_cases h0 : c x.1 y.1 = 0
    · rw [if_pos h0, if_pos (by omega)]; exact k.sym _ _
    · rw [if_neg h0, if_neg (by omega)]; exact hs
  eq0 := by
    intro x y hx hy
    have he := h.eq0 x.1 y.1 hx.1 hy.1
    have ke := k.eq0 x.2 y.2 hx.2 hy.2
    unfold pairC
    by_cases h0 : c x.1 y.1 = 0
    · rw [if_pos h0, ke, Prod.ext_iff]; exact ⟨fun e => ⟨he.1 h0, e⟩, fun e => e.2⟩
    · rw [if_neg h0, Prod.ext_iff]; exact ⟨fun e => absurd e h0, fun e => absurd (he.2 e.1) h0⟩
  tr := by
    intro x y z hx hy hz h1 h2
    unfold pairC at h1 h2 ⊢
    by_cases e1 : c x.1 y.1 = 0
    · rw [if_pos e1] at h1
      have hxy := (h.eq0 _ _ hx.1 hy.1).1 e1
      rw [hxy]
      by_cases e2 : c y.1 z.1 = 0
      · rw [if_pos e2] at h2 ⊢; exact k.tr _ _ _ hx.2 hy.2 hz.2 h1 h2
      · rw [if_neg e2] at h2 ⊢; exact h2
    · rw [if_neg e1] at h1
      by_cases e2 : c y.1 z.1 = 0
      · have hyz := (h.eq0 _ _ hy.1 hz.1).1 e2
        rw [← hyz, if_neg e1]; exact h1
      · rw [if_neg e2] at h2
        have ht := h.tr _ _ _ hx.1 hy.1 hz.1 h1 h2
        by_cases e3 : c x.1 z.1 = 0
        · have hxz := (h.eq0 _ _ hx.1 hz.1).1 e3
          rw [← hxz] at h2
          have := h.sym x.1 y.1
          have r := h.rng x.1 y.1
          omega
        · rw [if_neg e3]; exact ht

/-- Of things told by a value, where the value tells which of the S it is. -/
theorem onC_good {α β : Type} {S : α → Prop} {T : β → Prop} {c : α → α → Int} (h : Cmp S c) (f : β → α) (hf : ∀ x, T x → S (f x)) (inj : ∀ x y, T x → T y → f x = f y → x = y) : Cmp T (fun x y => c (f x) (f y)) where
  rng := fun x y => h.rng _ _
  sym := fun x y => h.sym _ _
  eq0 := fun x y hx hy => ⟨fun e => inj x y hx hy ((h.eq0 _ _ (hf x hx) (hf y hy)).1 e), fun e => by rw [e]; exact (h.eq0 _ _ (hf y hy) (hf y hy)).2 rfl⟩
  tr := fun x y z hx hy hz => h.tr _ _ _ (hf x hx) (hf y hy) (hf z hz)

/-- Marks: none at all is the greatest. -/
def tailC {α : Type} (c : α → α → Int) (x y : List α) : Int := if x.isEmpty || y.isEmpty then cmpI y.length x.length else lexC c x y
theorem tailC_good {α : Type} {S : α → Prop} {c : α → α → Int} (h : Cmp S c) : Cmp (fun l => ∀ x ∈ l, S x) (tailC c) where
  rng := by intro x y; unfold tailC; split; exact cmpI_good.rng _ _; exact (lexC_good h).rng _ _
  sym := by
    intro x y
    unfold tailC
    by_cases h0 : (x.isEmpty || y.isEmpty) = true
    · rw [if_pos h0, if_pos (by rw [Bool.or_comm]; exact h0)]; exact cmpI_good.sym _ _
    · rw [if_neg h0, if_neg (by rw [Bool.or_comm]; exact h0)]; exact (lexC_good h).sym _ _
  eq0 := by
    intro x y hx hy
    unfold tailC
    by_cases h0 : (x.isEmpty || y.isEmpty) = true
    · rw [if_pos h0, cmpI_good.eq0 _ _ trivial trivial]
      cases x <;> cases y <;> simp_all <;> omega
    · rw [if_neg h0]; exact (lexC_good h).eq0 x y hx hy
  tr := by
    intro x y z hx hy hz h1 h2
    unfold tailC at h1 h2 ⊢
    cases x with
    | nil =>
      cases y with
      | nil => simpa using h2
      | cons b y => simp [cmpI] at h1; omega
    | cons a x =>
      cases z with
      | nil => simp [cmpI]
      | cons d z =>
        cases y with
        | nil => simp [cmpI] at h2; omega
        | cons b y =>
          simp only [List.isEmpty_cons, Bool.or_false, Bool.false_eq_true, if_false] at h1 h2 ⊢
          exact (lexC_good h).tr _ _ _ hx hy hz h1 h2
end Go.Proofs.YtoeolaienpopfaaGreatDoor
