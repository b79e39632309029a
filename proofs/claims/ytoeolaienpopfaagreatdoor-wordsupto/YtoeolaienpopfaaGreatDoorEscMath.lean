/- Escaping and unescaping of lists of bytes, and that each undoes the other. -/
namespace Go.Proofs.YtoeolaienpopfaaGreatDoor
def capB (c : UInt8) : Bool := decide (65 ≤ c.toNat ∧ c.toNat ≤ 90)
def smallB (c : UInt8) : Bool := decide (97 ≤ c.toNat ∧ c.toNat ≤ 122)
def escOne (c : UInt8) : List UInt8 := if capB c then [33, c + 32] else [c]
def esc (l : List UInt8) : List UInt8 := l.flatMap escOne
def une : List UInt8 → Option (List UInt8)
  | [] => some []
  | c :: r => if capB c then none else if c = 33 then (match r with | [] => none | d :: r' => if smallB d then (une r').map (fun u => (d - 32) :: u) else none) else (une r).map (fun u => c :: u)

theorem esc_nil : esc [] = [] := rfl
theorem esc_cons (c : UInt8) (l : List UInt8) : esc (c :: l) = escOne c ++ esc l := by simp [esc]
theorem esc_append (a b : List UInt8) : esc (a ++ b) = esc a ++ esc b := by simp [esc]
theorem escOne_cap {c : UInt8} (h : capB c = true) : escOne c = [33, c + 32] := by simp [escOne, h]
theorem escOne_not {c : UInt8} (h : capB c = false) : escOne c = [c] := by simp [escOne, h]
theorem escOne_length (c : UInt8) : (escOne c).length ≤ 2 := by unfold escOne; split <;> simp
theorem esc_length (l : List UInt8) : (esc l).length ≤ 2 * l.length := by
  induction l with
  | nil => simp [esc]
  | cons c l ih => rw [esc_cons]; have := escOne_length c; simp; omega

theorem cap_add {c : UInt8} (h : capB c = true) : (c + 32).toNat = c.toNat + 32 := by
  simp only [capB, decide_eq_true_eq] at h
  rw [UInt8.toNat_add]; show (c.toNat + 32) % 256 = _; omega
theorem small_sub {c : UInt8} (h : smallB c = true) : (c - 32).toNat = c.toNat - 32 := by
  simp only [smallB, decide_eq_true_eq] at h
  rw [UInt8.toNat_sub]; show (256 - 32 + c.toNat) % 256 = _; omega
theorem cap_small {c : UInt8} (h : capB c = true) : smallB (c + 32) = true := by
  have := cap_add h
  simp only [capB, decide_eq_true_eq] at h
  simp only [smallB, decide_eq_true_eq]; omega
theorem small_cap {c : UInt8} (h : smallB c = true) : capB (c - 32) = true := by
  have := small_sub h
  simp only [smallB, decide_eq_true_eq] at h
  simp only [capB, decide_eq_true_eq]; omega
theorem add_sub (c : UInt8) : c + 32 - 32 = c := by
  apply UInt8.toNat_inj.1; rw [UInt8.toNat_sub, UInt8.toNat_add]; have := c.toNat_lt; show (256 - 32 + (c.toNat + 32) % 256) % 256 = _; omega
theorem sub_add (c : UInt8) : c - 32 + 32 = c := by
  apply UInt8.toNat_inj.1; rw [UInt8.toNat_add, UInt8.toNat_sub]; have := c.toNat_lt; show ((256 - 32 + c.toNat) % 256 + 32) % 256 = _; omega
theorem small_notcap {c : UInt8} (h : smallB c = true) : capB c = false := by
  simp only [smallB, decide_eq_true_eq] at h
  simp only [capB, decide_eq_false_iff_not]; omega
theorem bang_notcap : capB 33 = false := by decide
theorem cap_ne_bang {c : UInt8} (h : capB c = true) : c ≠ 33 := by rintro rfl; simp [bang_notcap] at h

/-- No capital is left in a text that is escaped. -/
theorem esc_nocap (l : List UInt8) : ∀ c ∈ esc l, capB c = false := by
  induction l with
  | nil => simp [esc]
  | cons d l ih =>
    intro c hc
    rw [esc_cons, List.mem_append] at hc
    rcases hc with hc | hc
    · by_cases hd : capB d = true
      · rw [escOne_cap hd] at hc
        simp at hc
        rcases hc with rfl | rfl
        · exact bang_notcap
        · exact small_notcap (cap_small hd)
      · have hd : capB d = false := by simpa using hd
        rw [escOne_not hd] at hc
        simp at hc
        rw [hc]; exact hd
    · exact ih c hc

theorem une_nil : une [] = some [] := rfl
theorem une_cap {c : UInt8} (h : capB c = true) (r : List UInt8) : une (c :: r) = none := by cases r <;> simp [une, h]
theorem une_bang_end : une [33] = none := by simp [une, bang_notcap]
theorem une_bang_bad {d : UInt8} (h : smallB d = false) (r : List UInt8) : une (33 :: d :: r) = none := by simp [une, bang_notcap, h]
theorem une_bang {d : UInt8} (h : smallB d = true) (r : List UInt8) : une (33 :: d :: r) = (une r).map (fun u => (d - 32) :: u) := by simp [une, bang_notcap, h]
theorem une_plain {c : UInt8} (h : capB c = false) (hb : c ≠ 33) (r : List UInt8) : une (c :: r) = (une r).map (fun u => c :: u) := by
  cases r <;> simp [une, h, hb]

/-- What is escaped is unescaped to what it was. -/
theorem une_esc (l : List UInt8) (h : (33 : UInt8) ∉ l) : une (esc l) = some l := by
  induction l with
  | nil => rfl
  | cons c l ih =>
    simp only [List.mem_cons, not_or] at h
    rw [esc_cons]
    by_cases hc : capB c = true
    · rw [escOne_cap hc]
      show une (33 :: (c + 32) :: esc l) = _
      rw [une_bang (cap_small hc), ih h.2, add_sub]; rfl
    · have hc : capB c = false := by simpa using hc
      rw [escOne_not hc]
      show une (c :: esc l) = _
      rw [une_plain hc (fun e => h.1 e.symm), ih h.2]; rfl

/-- What is unescaped has no exclamation mark, and is escaped to what it was. -/
theorem esc_une : ∀ (n : Nat) (l u : List UInt8), l.length ≤ n → une l = some u → (33 : UInt8) ∉ u ∧ esc u = l := by
  intro n
  induction n with
  | zero =>
    intro l u hl h
    have : l = [] := by cases l <;> simp_all
    subst this
    simp [une] at h
    subst h
    exact ⟨by simp, rfl⟩
  | succ n ih =>
    intro l u hl h
    cases l with
    | nil =>
      simp [une] at h
      subst h
      exact ⟨by simp, rfl⟩
    | cons c r =>
      by_cases hc : capB c = true
      · rw [une_cap hc] at h; cases h
      · have hc : capB c = false := by simpa using hc
        by_cases hb : c = 33
        · subst hb
          cases r with
          | nil => rw [une_bang_end] at h; cases h
          | cons d r' =>
            by_cases hd : smallB d = true
            · rw [une_bang hd] at h
              cases hr : une r' with
              | none => rw [hr] at h; cases h
              | some v =>
                rw [hr] at h
                simp at h
                subst h
                obtain ⟨h1, h2⟩ := ih r' v (by simp at hl; omega) hr
                have hcap := small_cap hd
                refine ⟨?_, ?_⟩
                · simp only [List.mem_cons, not_or]
                  exact ⟨fun e => cap_ne_bang hcap e.symm, h1⟩
                · rw [esc_cons, escOne_cap hcap, h2, sub_add]; rfl
            · have hd : smallB d = false := by simpa using hd
              rw [une_bang_bad hd] at h; cases h
        · rw [une_plain hc hb] at h
          cases hr : une r with
          | none => rw [hr] at h; cases h
          | some v =>
            rw [hr] at h
            simp at h
            subst h
            obtain ⟨h1, h2⟩ := ih r v (by simp at hl; omega) hr
            refine ⟨?_, ?_⟩
            · simp only [List.mem_cons, not_or]
              exact ⟨fun e => hb e.symm, h1⟩
            · rw [esc_cons, escOne_not hc, h2]; rfl

theorem une_length : ∀ (n : Nat) (l u : List UInt8), l.length ≤ n → une l = some u → u.length ≤ l.length := by
  intro n l u hl h
  obtain ⟨-, h2⟩ := esc_une n l u hl h
  rw [← h2]
  clear h h2 hl
  induction u with
  | nil => simp
  | cons c u ih =>
    rw [esc_cons]
    have : 1 ≤ (escOne c).length := by unfold escOne; split <;> simp
    simp; omega
end Go.Proofs.YtoeolaienpopfaaGreatDoor
