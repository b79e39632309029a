/- Versions as lists of bytes: how they are cut, which are versions, and that their order is one. -/
import Derived.Test.YtoeolaienpopfaaGreatDoorCmpMath
namespace Go.Proofs.YtoeolaienpopfaaGreatDoor
/-- A text cut at each full stop. -/
def spl : List UInt8 → List (List UInt8)
  | [] => [[]]
  | c :: r => if c = 46 then [] :: spl r else match spl r with | [] => [[c]] | h :: t => (c :: h) :: t
def joinD : List (List UInt8) → List UInt8
  | [] => []
  | [a] => a
  | a :: b :: r => a ++ 46 :: joinD (b :: r)
theorem spl_ne (l : List UInt8) : spl l ≠ [] := by
  cases l with
  | nil => simp [spl]
  | cons c r => unfold spl; split; simp; split <;> simp
theorem join_spl (l : List UInt8) : joinD (spl l) = l := by
  induction l with
  | nil => rfl
  | cons c r ih =>
    unfold spl
    by_cases h : c = 46
    · rw [if_pos h]
      cases hs : spl r with
      | nil => exact absurd hs (spl_ne r)
      | cons a t => rw [hs] at ih; rw [joinD, ih, h]; rfl
    · rw [if_neg h]
      cases hs : spl r with
      | nil => exact absurd hs (spl_ne r)
      | cons a t =>
        rw [hs] at ih
        cases t with
        | nil => simp [joinD] at ih ⊢; exact ih
        | cons b t => simp [joinD] at ih ⊢; exact ih
/-- A text cut at the first hyphen. -/
def cutD : List UInt8 → List UInt8 × List UInt8 × Bool
  | [] => ([], [], false)
  | c :: r => if c = 45 then ([], r, true) else (c :: (cutD r).1, (cutD r).2.1, (cutD r).2.2)
theorem cutD_join (l : List UInt8) : l = (cutD l).1 ++ (if (cutD l).2.2 then 45 :: (cutD l).2.1 else []) := by
  induction l with
  | nil => rfl
  | cons c r ih =>
    unfold cutD
    by_cases h : c = 45
    · simp [h]
    · rw [if_neg h]; simp only [List.cons_append, List.cons.injEq, true_and]; exact ih

def digB (c : UInt8) : Bool := decide (48 ≤ c.toNat ∧ c.toNat ≤ 57)
def markB (c : UInt8) : Bool := decide (97 ≤ c.toNat ∧ c.toNat ≤ 122) || decide (65 ≤ c.toNat ∧ c.toNat ≤ 90) || digB c || decide (c = 45)
def val (l : List UInt8) : Int := l.foldl (fun n c => n * 10 + ((c.toNat : Int) - 48)) 0
def numOk (l : List UInt8) : Bool := !l.isEmpty && decide (l.length ≤ 9) && !(decide (l.head? = some 48) && decide (1 < l.length)) && l.all digB
def isNum (l : List UInt8) : Bool := l.all digB
def markOk (l : List UInt8) : Bool := !l.isEmpty && l.all markB && (!isNum l || numOk l)
def cmpB (a b : List UInt8) : Int := lexC (fun x y : UInt8 => cmpI x.toNat y.toNat) a b
def cmpM (a b : List UInt8) : Int := if isNum a then (if isNum b then cmpI (val a) (val b) else -1) else if isNum b then 1 else cmpB a b

/-- The texts of a version's numbers and marks; none: it is no version. -/
def parseV (l : List UInt8) : Option (List (List UInt8) × List (List UInt8)) :=
  if 30 < l.length then none else
  match l with
  | [] => none
  | c :: r => if c = 118 then
      (if (spl (cutD r).1).length = 3 ∧ (spl (cutD r).1).all numOk = true then
        (if (cutD r).2.2 = true then (if (spl (cutD r).2.1).all markOk = true then some (spl (cutD r).1, spl (cutD r).2.1) else none) else some (spl (cutD r).1, []))
       else none)
    else none
def cmpV (x y : List (List UInt8) × List (List UInt8)) : Int := pairC (lexC fun a b => cmpI (val a) (val b)) (tailC cmpM) x y
def vtext (x : List (List UInt8) × List (List UInt8)) : List UInt8 := 118 :: (joinD x.1 ++ (if x.2 = [] then [] else 45 :: joinD x.2))

theorem vtext_parse {l : List UInt8} {x : List (List UInt8) × List (List UInt8)} (h : parseV l = some x) : vtext x = l := by
  unfold parseV at h
  split at h
  · cases h
  · split at h
    · cases h
    · rename_i c r _
      split at h
      · rename_i hc
        have hj := cutD_join r
        split at h
        · split at h
          · rename_i hm
            split at h
            · obtain rfl := Option.some.inj h
              simp only [vtext, join_spl, spl_ne, if_false, hc]
              rw [if_pos hm] at hj
              rw [← hj]
            · cases h
          · rename_i hm
            obtain rfl := Option.some.inj h
            simp only [vtext, join_spl, if_true, hc]
            rw [if_neg hm] at hj
            rw [← hj]
        · cases h
      · cases h
theorem parse_inj {l m : List UInt8} {x : List (List UInt8) × List (List UInt8)} (h : parseV l = some x) (k : parseV m = some x) : l = m := (vtext_parse h).symm.trans (vtext_parse k)
theorem parse_ok {l : List UInt8} {x : List (List UInt8) × List (List UInt8)} (h : parseV l = some x) : (∀ a ∈ x.1, numOk a = true) ∧ (∀ a ∈ x.2, markOk a = true) := by
  unfold parseV at h
  split at h
  · cases h
  · split at h
    · cases h
    · split at h
      · split at h
        · rename_i hn
          split at h
          · split at h
            · rename_i hm
              obtain rfl := Option.some.inj h
              exact ⟨fun a ha => List.all_eq_true.1 hn.2 a ha, fun a ha => List.all_eq_true.1 hm a ha⟩
            · cases h
          · obtain rfl := Option.some.inj h
            exact ⟨fun a ha => List.all_eq_true.1 hn.2 a ha, fun a ha => by cases ha⟩
        · cases h
      · cases h

/-! ### numbers: the value tells the text -/
theorem dig_range {c : UInt8} (h : digB c = true) : 48 ≤ c.toNat ∧ c.toNat ≤ 57 := by simpa [digB] using h
theorem fold_ge (l : List UInt8) : ∀ a : Int, 0 ≤ a → (∀ c ∈ l, digB c = true) → a ≤ l.foldl (fun n c => n * 10 + ((c.toNat : Int) - 48)) a := by
  induction l with
  | nil => intro a _ _; exact Int.le_refl _
  | cons c l ih =>
    intro a ha h
    have := dig_range (h c (by simp))
    have := ih (a * 10 + ((c.toNat : Int) - 48)) (by omega) (fun d hd => h d (by simp [hd]))
    simp only [List.foldl_cons]
    omega
theorem val_nonneg (l : List UInt8) (h : ∀ c ∈ l, digB c = true) : 0 ≤ val l := fold_ge l 0 (Int.le_refl _) h
theorem val_snoc (l : List UInt8) (c : UInt8) : val (l ++ [c]) = val l * 10 + ((c.toNat : Int) - 48) := by simp [val]
theorem val_pos {c : UInt8} {l : List UInt8} (h : ∀ d ∈ c :: l, digB d = true) (hc : c ≠ 48) : 1 ≤ val (c :: l) := by
  have h1 := dig_range (h c (by simp))
  have h2 : c.toNat ≠ 48 := fun e => hc (UInt8.toNat_inj.1 e)
  have := fold_ge l (0 * 10 + ((c.toNat : Int) - 48)) (by omega) (fun d hd => h d (by simp [hd]))
  simp only [val, List.foldl_cons]
  omega
theorem val_lt (l : List UInt8) : (∀ c ∈ l, digB c = true) → val l < 10 ^ l.length := by
  intro h
  have aux : ∀ (l : List UInt8) (a : Int), (∀ c ∈ l, digB c = true) → l.foldl (fun n c => n * 10 + ((c.toNat : Int) - 48)) a < (a + 1) * 10 ^ l.length := by
    intro l
    induction l with
    | nil => intro a _; simp; omega
    | cons c l ih =>
      intro a h
      have h1 := dig_range (h c (by simp))
      have h2 := ih (a * 10 + ((c.toNat : Int) - 48)) (fun d hd => h d (by simp [hd]))
      simp only [List.foldl_cons, List.length_cons]
      refine Int.lt_of_lt_of_le h2 ?_
      rw [Int.pow_succ, Int.mul_comm (10 ^ l.length) 10, ← Int.mul_assoc]
      exact Int.mul_le_mul_of_nonneg_right (by omega) (Int.pow_nonneg (by decide))
  have := aux l 0 h
  simpa [val] using this
theorem val_bound (l : List UInt8) (h : ∀ c ∈ l, digB c = true) (hl : l.length ≤ 9) : val l < 1000000000 := by
  have h1 := val_lt l h
  have h2 : (10 : Int) ^ l.length ≤ 10 ^ 9 := by
    have : ∀ n, n ≤ 9 → (10 : Int) ^ n ≤ 10 ^ 9 := by
      intro n hn
      match n, hn with
      | 0, _ => decide
      | 1, _ => decide
      | 2, _ => decide
      | 3, _ => decide
      | 4, _ => decide
      | 5, _ => decide
      | 6, _ => decide
      | 7, _ => decide
      | 8, _ => decide
      | 9, _ => decide
    exact this _ hl
  have h3 : (10 : Int) ^ 9 = 1000000000 := by decide
  omega
/-- Digits without a 0 ahead (none at all among them): the value tells them. -/
theorem val_inj_nz : ∀ (n : Nat) (l m : List UInt8), l.length ≤ n → (∀ c ∈ l, digB c = true) → (∀ c ∈ m, digB c = true) → l.head? ≠ some 48 → m.head? ≠ some 48 → val l = val m → l = m := by
  intro n
  induction n with
  | zero =>
    intro l m hl _ hm _ zm e
    have : l = [] := by cases l <;> simp_all
    subst this
    cases m with
    | nil => rfl
    | cons c m =>
      have := val_pos hm (by simpa using zm)
      simp [val] at e
      simp [val] at this
      omega
  | succ n ih =>
    intro l m hl dl dm zl zm e
    rcases List.eq_nil_or_concat l with rfl | ⟨l', c, rfl⟩
    · cases m with
      | nil => rfl
      | cons d m =>
        have := val_pos dm (by simpa using zm)
        have e0 : val [] = 0 := rfl
        omega
    · rcases List.eq_nil_or_concat m with rfl | ⟨m', d, rfl⟩
      · have e0 : val [] = 0 := rfl
        cases l' with
        | nil =>
          have := val_pos (c := c) (l := []) (by simpa using dl) (by simpa using zl)
          simp at e
          omega
        | cons a l'' =>
          have := val_pos (c := a) (l := l'' ++ [c]) (by simpa using dl) (by simpa using zl)
          simp at e
          omega
      · simp only [List.concat_eq_append] at *
        rw [val_snoc, val_snoc] at e
        have hc := dig_range (dl c (by simp))
        have hd := dig_range (dm d (by simp))
        have hl0 := val_nonneg l' (fun x hx => dl x (by simp [hx]))
        have hm0 := val_nonneg m' (fun x hx => dm x (by simp [hx]))
        have ecd : c.toNat = d.toNat := by omega
        have ev : val l' = val m' := by omega
        have zl' : l'.head? ≠ some 48 := by cases l' <;> simp_all
        have zm' : m'.head? ≠ some 48 := by cases m' <;> simp_all
        rw [ih l' m' (by simp at hl; omega) (fun x hx => dl x (by simp [hx])) (fun x hx => dm x (by simp [hx])) zl' zm' ev, UInt8.toNat_inj.1 ecd]
theorem numOk_parts {l : List UInt8} (h : numOk l = true) : l ≠ [] ∧ l.length ≤ 9 ∧ (l.head? = some 48 → l.length ≤ 1) ∧ ∀ c ∈ l, digB c = true := by
  simp only [numOk, Bool.and_eq_true, Bool.not_eq_true', List.isEmpty_eq_false_iff, decide_eq_true_eq, Bool.and_eq_false_iff, decide_eq_false_iff_not] at h
  obtain ⟨⟨⟨h1, h2⟩, h3⟩, h4⟩ := h
  refine ⟨h1, h2, fun e => ?_, fun c hc => List.all_eq_true.1 h4 c hc⟩
  rcases h3 with h3 | h3
  · exact absurd e h3
  · omega
theorem numOk_mk {l : List UInt8} (h1 : l ≠ []) (h2 : l.length ≤ 9) (h3 : l.head? = some 48 → l.length ≤ 1) (h4 : ∀ c ∈ l, digB c = true) : numOk l = true := by
  simp only [numOk, Bool.and_eq_true, Bool.not_eq_true', List.isEmpty_eq_false_iff, decide_eq_true_eq, Bool.and_eq_false_iff, decide_eq_false_iff_not]
  refine ⟨⟨⟨h1, h2⟩, ?_⟩, List.all_eq_true.2 h4⟩
  by_cases e : l.head? = some 48
  · right; have := h3 e; omega
  · left; exact e
theorem zero_text {l : List UInt8} (h : numOk l = true) (z : l.head? = some 48) : l = [48] := by
  obtain ⟨_, _, h3, _⟩ := numOk_parts h
  have := h3 z
  cases l with
  | nil => simp at z
  | cons c r =>
    simp at z this
    simp [z, this]
theorem val_inj {l m : List UInt8} (hl : numOk l = true) (hm : numOk m = true) (e : val l = val m) : l = m := by
  obtain ⟨l1, _, _, l4⟩ := numOk_parts hl
  obtain ⟨m1, _, _, m4⟩ := numOk_parts hm
  have e0 : val [48] = 0 := rfl
  by_cases zl : l.head? = some 48
  · have := zero_text hl zl
    subst this
    by_cases zm : m.head? = some 48
    · exact (zero_text hm zm).symm
    · cases m with
      | nil => exact absurd rfl m1
      | cons c m => have := val_pos m4 (by simpa using zm); omega
  · by_cases zm : m.head? = some 48
    · have := zero_text hm zm
      subst this
      cases l with
      | nil => exact absurd rfl l1
      | cons c l => have := val_pos l4 (by simpa using zl); omega
    · exact val_inj_nz l.length l m (Nat.le_refl _) l4 m4 zl zm e

/-! ### the order of versions is one -/
theorem cmpB_good : Cmp (fun _ => True) cmpB := by
  have h := lexC_good (onC_good cmpI_good (fun x : UInt8 => (x.toNat : Int)) (T := fun _ => True) (fun _ _ => trivial) (fun x y _ _ e => UInt8.toNat_inj.1 (by omega)))
  exact ⟨h.rng, h.sym, fun x y _ _ => h.eq0 x y (fun _ _ => trivial) (fun _ _ => trivial), fun x y z _ _ _ => h.tr x y z (fun _ _ => trivial) (fun _ _ => trivial) (fun _ _ => trivial)⟩
theorem markOk_num {l : List UInt8} (h : markOk l = true) (n : isNum l = true) : numOk l = true := by
  simp only [markOk, Bool.and_eq_true, Bool.or_eq_true, Bool.not_eq_true'] at h
  rcases h.2 with h2 | h2
  · rw [n] at h2; cases h2
  · exact h2
theorem cmpM_good : Cmp (fun l => markOk l = true) cmpM where
  rng := by intro x y; unfold cmpM; repeat' split
            · exact cmpI_good.rng _ _
            · simp
            · simp
            · exact cmpB_good.rng _ _
  sym := by
    intro x y
    unfold cmpM
    cases isNum x <;> cases isNum y <;> simp
    · exact cmpB_good.sym _ _
    · exact cmpI_good.sym _ _
  eq0 := by
    intro x y hx hy
    unfold cmpM
    cases nx : isNum x <;> cases ny : isNum y <;> simp
    · exact cmpB_good.eq0 _ _ trivial trivial
    · rintro rfl; rw [nx] at ny; cases ny
    · rintro rfl; rw [nx] at ny; cases ny
    · rw [cmpI_good.eq0 _ _ trivial trivial]
      exact ⟨fun e => val_inj (markOk_num hx nx) (markOk_num hy ny) e, fun e => by rw [e]⟩
  tr := by
    intro x y z _ _ _
    unfold cmpM
    cases isNum x <;> cases isNum y <;> cases isNum z <;> simp
    · exact cmpB_good.tr _ _ _ trivial trivial trivial
    · exact cmpI_good.tr _ _ _ trivial trivial trivial
theorem cmpV_good : Cmp (fun x => (∀ a ∈ x.1, numOk a = true) ∧ (∀ a ∈ x.2, markOk a = true)) cmpV :=
  pairC_good (lexC_good (onC_good cmpI_good val (T := fun a => numOk a = true) (fun _ _ => trivial) (fun _ _ hx hy e => val_inj hx hy e))) (tailC_good cmpM_good)
end Go.Proofs.YtoeolaienpopfaaGreatDoor
