/- Sets of codes: which symbols have a length, where the codes of a length begin, and that a list of codes (as the document makes it) and counts with symbols in order (as the program has them) read the same symbol. -/
import Derived.Test.YtjilhneefbakhaaDoorInfTake
namespace Go.Proofs.YtjilhneefbakhaaDoor.Inf
open Go.RowKit Go.Proofs.YtjilhneefbakhaaDoor.Sha

/-- The first k symbols whose length is n. -/
def row (lens : List Nat) (n : Nat) : Nat → List Nat
  | 0 => []
  | k + 1 => if lens.getD k 0 = n then row lens n k ++ [k] else row lens n k
/-- All symbols whose length is n. -/
def symsOf (lens : List Nat) (n : Nat) : List Nat := row lens n lens.length
def cnt (lens : List Nat) (n : Nat) : Nat := (symsOf lens n).length
/-- The number behind the codes of the lengths up to n. -/
def nx (lens : List Nat) : Nat → Nat
  | 0 => 0
  | n + 1 => 2 * nx lens n + cnt lens (n + 1)
/-- How many codes have the lengths up to n. -/
def off (lens : List Nat) : Nat → Nat
  | 0 => 0
  | n + 1 => off lens n + cnt lens (n + 1)
/-- The sum over the lengths up to n. -/
def sumN (lens : List Nat) : Nat → Nat
  | 0 => 0
  | n + 1 => sumN lens n + cnt lens (n + 1) * 2 ^ (15 - (n + 1))
/-- Codes of one length. -/
def mkC (n : Nat) : Nat → List Nat → List (Nat × Nat × Nat)
  | _, [] => []
  | f, s :: r => (n, f, s) :: mkC n (f + 1) r
def codesN (lens : List Nat) : Nat → List (Nat × Nat × Nat)
  | 0 => []
  | n + 1 => codesN lens n ++ mkC (n + 1) (2 * nx lens n) (symsOf lens (n + 1))
theorem mkC_append (n : Nat) : ∀ (f : Nat) (a b : List Nat), mkC n f (a ++ b) = mkC n f a ++ mkC n (f + a.length) b
  | f, [], b => by simp [mkC]
  | f, x :: a, b => by simp [mkC, mkC_append n (f + 1) a b]; congr 1; omega
theorem mkC_len (n : Nat) : ∀ (f : Nat) (a : List Nat), (mkC n f a).length = a.length
  | f, [] => rfl
  | f, x :: a => by simp [mkC, mkC_len n (f + 1) a]
/-- The first code of the list that has this length and these bits. -/
def look (n v : Nat) : List (Nat × Nat × Nat) → Option Nat
  | [] => none
  | c :: l => if c.1 = n ∧ c.2.1 = v then some c.2.2 else look n v l
theorem look_append (n v : Nat) : ∀ a b, look n v (a ++ b) = (look n v a).or (look n v b)
  | [], b => by simp [look]
  | c :: a, b => by
    simp only [List.cons_append, look]
    split
    · simp
    · exact look_append n v a b
theorem look_mkC_ne (n v m : Nat) (h : m ≠ n) : ∀ f r, look n v (mkC m f r) = none
  | f, [] => rfl
  | f, x :: r => by simp [mkC, look, h, look_mkC_ne n v m h]
theorem look_mkC (n v : Nat) : ∀ f r, f ≤ v → look n v (mkC n f r) = r[v - f]?
  | f, [], _ => by simp [mkC, look]
  | f, x :: r, h => by
    simp only [mkC, look]
    by_cases he : f = v
    · simp [he]
    · have h1 : f + 1 ≤ v := by omega
      have h2 : v - f = (v - (f + 1)) + 1 := by omega
      rw [if_neg (by simp [he]), look_mkC n v (f + 1) r h1, h2, List.getElem?_cons_succ]
theorem look_codesN_big (lens : List Nat) (n v : Nat) : ∀ N, N < n → look n v (codesN lens N) = none
  | 0, _ => rfl
  | N + 1, h => by rw [codesN, look_append, look_codesN_big lens n v N (by omega), look_mkC_ne n v (N + 1) (by omega)]; rfl
theorem look_codesN (lens : List Nat) (n v : Nat) (hv : 2 * nx lens n ≤ v) : ∀ N, n + 1 ≤ N → look (n + 1) v (codesN lens N) = (symsOf lens (n + 1))[v - 2 * nx lens n]?
  | 0, h => by omega
  | N + 1, h => by
    rw [codesN, look_append]
    by_cases he : N = n
    · subst he
      rw [look_codesN_big lens (N + 1) v N (by omega), look_mkC _ _ _ _ hv]; rfl
    · rw [look_codesN lens n v hv N (by omega), look_mkC_ne (n + 1) v (N + 1) (by omega)]; simp
theorem row_lt (lens : List Nat) (n : Nat) : ∀ k x, x ∈ row lens n k → x < k
  | 0, x, h => by cases h
  | k + 1, x, h => by
    rw [row] at h
    split at h
    · rcases List.mem_append.1 h with h | h
      · have := row_lt lens n k x h; omega
      · simp at h; omega
    · have := row_lt lens n k x h; omega
theorem syms_lt {lens : List Nat} {n x : Nat} (h : x ∈ symsOf lens n) : x < lens.length := row_lt lens n _ x h
theorem row_mono (lens : List Nat) (n : Nat) : ∀ k K, k ≤ K → (row lens n k).length ≤ (row lens n K).length
  | k, 0, h => by obtain rfl : k = 0 := by omega
                  exact Nat.le_refl _
  | k, K + 1, h => by
    by_cases he : k = K + 1
    · subst he; exact Nat.le_refl _
    · have := row_mono lens n k K (by omega)
      rw [show row lens n (K + 1) = if lens.getD K 0 = n then row lens n K ++ [K] else row lens n K from rfl]
      split
      · simp; omega
      · exact this
theorem row_here (lens : List Nat) (k : Nat) (hk : k < lens.length) : (row lens (lens.getD k 0) k).length < cnt lens (lens.getD k 0) := by
  have h := row_mono lens (lens.getD k 0) (k + 1) lens.length hk
  rw [show row lens (lens.getD k 0) (k + 1) = if lens.getD k 0 = lens.getD k 0 then row lens (lens.getD k 0) k ++ [k] else row lens (lens.getD k 0) k from rfl, if_pos rfl] at h
  simp at h
  exact h
theorem off_mono (lens : List Nat) (n : Nat) : ∀ N, n ≤ N → off lens n ≤ off lens N
  | 0, h => by obtain rfl : n = 0 := by omega
               exact Nat.le_refl _
  | N + 1, h => by
    by_cases he : n = N + 1
    · subst he; exact Nat.le_refl _
    · have := off_mono lens n N (by omega)
      rw [show off lens (N + 1) = off lens N + cnt lens (N + 1) from rfl]; omega
theorem row_len_le (lens : List Nat) (n : Nat) : ∀ k, (row lens n k).length ≤ k
  | 0 => Nat.le_refl _
  | k + 1 => by
    have := row_len_le lens n k
    rw [show row lens n (k + 1) = if lens.getD k 0 = n then row lens n k ++ [k] else row lens n k from rfl]
    split
    · simp; omega
    · omega
theorem cnt_le (lens : List Nat) (n : Nat) : cnt lens n ≤ lens.length := row_len_le _ _ _
/-- How many of the first k symbols have a length from 1 to n. -/
def offK (lens : List Nat) (k : Nat) : Nat → Nat
  | 0 => 0
  | n + 1 => offK lens k n + (row lens (n + 1) k).length
theorem offK_step (lens : List Nat) (k n : Nat) : offK lens (k + 1) n ≤ offK lens k n + (if 1 ≤ lens.getD k 0 ∧ lens.getD k 0 ≤ n then 1 else 0) := by
  induction n with
  | zero => simp [offK]
  | succ n ih =>
    simp only [offK, row]
    by_cases h : lens.getD k 0 = n + 1
    · rw [if_neg (by omega)] at ih
      rw [if_pos h, if_pos (⟨by omega, by omega⟩ : 1 ≤ lens.getD k 0 ∧ lens.getD k 0 ≤ n + 1)]; simp; omega
    · rw [if_neg h]
      by_cases h2 : 1 ≤ lens.getD k 0 ∧ lens.getD k 0 ≤ n
      · rw [if_pos h2] at ih; rw [if_pos ⟨h2.1, by omega⟩]; omega
      · rw [if_neg h2] at ih; rw [if_neg (by omega)]; omega
theorem offK_le (lens : List Nat) (n : Nat) : ∀ k, offK lens k n ≤ k
  | 0 => by
    have : ∀ n, offK lens 0 n = 0 := by
      intro n; induction n with
      | zero => rfl
      | succ n ih => simp [offK, ih, row]
    rw [this]; exact Nat.le_refl _
  | k + 1 => by
    have h1 := offK_step lens k n
    have h2 := offK_le lens n k
    split at h1 <;> omega
theorem off_eq (lens : List Nat) : ∀ n, off lens n = offK lens lens.length n
  | 0 => rfl
  | n + 1 => by rw [off, offK, off_eq lens n]; rfl
theorem off_le (lens : List Nat) (n : Nat) : off lens n ≤ lens.length := by rw [off_eq]; exact offK_le _ _ _
/-- Symbols in order: those of a length stand behind those of the shorter ones. -/
def Sorted (lens : List Nat) (l : List Nat) : Prop := l.length = off lens 15 ∧ ∀ n, n < 15 → ∀ j x, (symsOf lens (n + 1))[j]? = some x → l[off lens n + j]? = some x
/-- The next symbol from a place on, n bits of which, of the value v, are taken; k more may be: it, and the place behind it. -/
def symG (lens : List Nat) (s : ByteArray) : Nat → Nat → Nat → Nat → Option (Nat × Nat)
  | 0, _, _, _ => none
  | k + 1, n, v, pos => if pos < 8 * s.size then (match (symsOf lens (n + 1))[2 * v + bitAt s pos - 2 * nx lens n]? with
    | some x => some (x, pos + 1)
    | none => symG lens s k (n + 1) (2 * v + bitAt s pos) (pos + 1)) else none
def symP (lens : List Nat) (s : ByteArray) (pos : Nat) : Option (Nat × Nat) := symG lens s 15 0 0 pos
theorem symG_lt (lens : List Nat) (s : ByteArray) : ∀ k n v pos x p, symG lens s k n v pos = some (x, p) → x < lens.length ∧ pos < p ∧ p ≤ 8 * s.size
  | 0, _, _, _, _, _, h => by cases h
  | k + 1, n, v, pos, x, p, h => by
    rw [symG] at h
    split at h
    · rename_i hp
      split at h
      · rename_i y hy
        injection h with h
        injection h with h1 h2
        subst h1; subst h2
        exact ⟨syms_lt (List.mem_of_getElem? hy), by omega, by omega⟩
      · have := symG_lt lens s k _ _ _ _ _ h
        omega
    · cases h
theorem symP_lt {lens : List Nat} {s : ByteArray} {pos x p : Nat} (h : symP lens s pos = some (x, p)) : x < lens.length ∧ pos < p ∧ p ≤ 8 * s.size := symG_lt lens s 15 0 0 pos x p h
theorem nx_lt (lens : List Nat) : ∀ n, nx lens n ≤ lens.length * (2 ^ n - 1)
  | 0 => by simp [nx]
  | n + 1 => by
    have h1 := nx_lt lens n
    have h2 := cnt_le lens (n + 1)
    rw [nx]
    have h3 : 2 ^ (n + 1) - 1 = 2 * (2 ^ n - 1) + 1 := by have := Nat.one_le_two_pow (n := n); rw [Nat.pow_succ]; omega
    rw [h3, Nat.mul_add, ← Nat.mul_assoc, Nat.mul_comm lens.length 2, Nat.mul_assoc]; omega
end Go.Proofs.YtjilhneefbakhaaDoor.Inf
