/- What a deflated text gives, told plainly: each side, program and document, is walked to this. -/
import Derived.Test.YtjilhneefbakhaaDoorCodeMath
import Derived.Test.YtjilhneefbakhaaDoorInfEnd
namespace Go.Proofs.YtjilhneefbakhaaDoor.Inf
open Go.RowKit Go.Proofs.YtjilhneefbakhaaDoor.Sha

/-- n bits from a place on: their number, and the place behind them. -/
def takeP (s : ByteArray) (pos n : Nat) : Option (Nat × Nat) := if pos + n ≤ 8 * s.size then some (bitsVal s pos n, pos + n) else none
/-- What the next symbol of told lengths says: a length, how often, and the place behind it. -/
def lenStep (cl : List Nat) (s : ByteArray) (acc : List Nat) (pos : Nat) : Option (Nat × Nat × Nat) :=
  match symP cl s pos with
  | none => none
  | some (x, p) =>
    if x = 16 then (if acc = [] then none else (takeP s p 2).map fun r => (acc.getD (acc.length - 1) 0, 3 + r.1, r.2))
    else if x = 17 then (takeP s p 3).map fun r => (0, 3 + r.1, r.2)
    else if x = 18 then (takeP s p 7).map fun r => (0, 11 + r.1, r.2)
    else some (x, 1, p)
/-- The told lengths, from some on. -/
def lenG (cl : List Nat) (s : ByteArray) (many : Nat) : Nat → List Nat → Nat → Option (List Nat × Nat)
  | 0, acc, pos => if acc.length = many then some (acc, pos) else none
  | f + 1, acc, pos => if acc.length = many then some (acc, pos) else
    match lenStep cl s acc pos with
    | none => none
    | some (x, t, p) => if many - acc.length < t then none else lenG cl s many f (acc ++ List.replicate t x) p
def ordL : List Nat := [16, 17, 18, 0, 8, 7, 9, 6, 10, 5, 11, 4, 12, 3, 13, 2, 14, 1, 15]
/-- The lengths of the code for lengths. -/
def clens (s : ByteArray) (p : Nat) : Nat → List Nat
  | 0 => List.replicate 19 0
  | i + 1 => (clens s p i).set (ordL.getD i 0) (bitsVal s (p + 3 * i) 3)
def full (lens : List Nat) : Prop := sumN lens 15 = 32768
def loneP (lens : List Nat) : Prop := off lens 15 = 0 ∨ (off lens 15 = 1 ∧ cnt lens 1 = 1)
instance (lens : List Nat) : Decidable (full lens) := inferInstanceAs (Decidable (_ = _))
instance (lens : List Nat) : Decidable (loneP lens) := inferInstanceAs (Decidable (_ ∨ _))
/-- The lengths that a block tells ahead of its codes. -/
def ownP (s : ByteArray) (pos : Nat) : Option (List Nat × List Nat × Nat) :=
  if pos + 14 ≤ 8 * s.size ∧ pos + 14 + 3 * (4 + bitsVal s (pos + 10) 4) ≤ 8 * s.size ∧ bitsVal s pos 5 ≤ 29 ∧ bitsVal s (pos + 5) 5 ≤ 29 ∧ full (clens s (pos + 14) (4 + bitsVal s (pos + 10) 4)) then
    match lenG (clens s (pos + 14) (4 + bitsVal s (pos + 10) 4)) s (258 + bitsVal s pos 5 + bitsVal s (pos + 5) 5) (258 + bitsVal s pos 5 + bitsVal s (pos + 5) 5) [] (pos + 14 + 3 * (4 + bitsVal s (pos + 10) 4)) with
    | none => none
    | some (l, p) => if l.getD 256 0 ≠ 0 ∧ full (l.take (257 + bitsVal s pos 5)) ∧ (full (l.drop (257 + bitsVal s pos 5)) ∨ loneP (l.drop (257 + bitsVal s pos 5))) then some (l.take (257 + bitsVal s pos 5), l.drop (257 + bitsVal s pos 5), p) else none
  else none
def lenBase : List Nat := [3, 4, 5, 6, 7, 8, 9, 10, 11, 13, 15, 17, 19, 23, 27, 31, 35, 43, 51, 59, 67, 83, 99, 115, 131, 163, 195, 227, 258]
def lenBits : List Nat := [0, 0, 0, 0, 0, 0, 0, 0, 1, 1, 1, 1, 2, 2, 2, 2, 3, 3, 3, 3, 4, 4, 4, 4, 5, 5, 5, 5, 0]
def disBase : List Nat := [1, 2, 3, 4, 5, 7, 9, 13, 17, 25, 33, 49, 65, 97, 129, 193, 257, 385, 513, 769, 1025, 1537, 2049, 3073, 4097, 6145, 8193, 12289, 16385, 24577]
def disBits : List Nat := [0, 0, 0, 0, 1, 1, 2, 2, 3, 3, 4, 4, 5, 5, 6, 6, 7, 7, 8, 8, 9, 9, 10, 10, 11, 11, 12, 12, 13, 13]
/-- n bytes again, from d back. -/
def repP (most d : Nat) : Nat → List UInt8 → Option (List UInt8)
  | 0, o => some o
  | n + 1, o => if o.length = most then none else repP most d n (o ++ [o.getD (o.length - d) 0])
/-- A copy, by the code of its length, behind that code. -/
def copyP (far : List Nat) (s : ByteArray) (most x p : Nat) (o : List UInt8) : Option (Nat × List UInt8) :=
  match takeP s p (lenBits.getD (x - 257) 0) with
  | none => none
  | some (v, q) => match symP far s q with
    | none => none
    | some (k, q2) => if 29 < k then none else match takeP s q2 (disBits.getD k 0) with
      | none => none
      | some (y, q3) => if o.length < disBase.getD k 0 + y then none else (repP most (disBase.getD k 0 + y) (lenBase.getD (x - 257) 0 + v) o).map fun o' => (q3, o')
/-- A block of codes. -/
def packG (near far : List Nat) (s : ByteArray) (most : Nat) : Nat → Nat → List UInt8 → Option (Nat × List UInt8)
  | 0, _, _ => none
  | f + 1, pos, o => match symP near s pos with
    | none => none
    | some (x, p) => if x < 256 then (if o.length = most then none else packG near far s most f p (o ++ [UInt8.ofNat x])) else if x = 256 then some (p, o) else if 285 < x then none else
      match copyP far s most x p o with
      | none => none
      | some (q, o') => packG near far s most f q o'
def packP (near far : List Nat) (s : ByteArray) (most pos : Nat) (o : List UInt8) : Option (Nat × List UInt8) := packG near far s most (8 * s.size + 1 - pos) pos o
def fixN : List Nat := List.replicate 144 8 ++ List.replicate 112 9 ++ List.replicate 24 7 ++ List.replicate 8 8
def fixD : List Nat := List.replicate 32 5
/-- A block, by its kind, behind its first three bits. -/
def blockP (s : ByteArray) (most kind pos : Nat) (o : List UInt8) : Option (Nat × List UInt8) :=
  if kind = 0 then storedP s most pos o else if kind = 1 then packP fixN fixD s most pos o else if kind = 2 then
    match ownP s pos with
    | none => none
    | some (near, far, p) => packP near far s most p o
  else none
def runG (s : ByteArray) (most : Nat) : Nat → Nat → List UInt8 → Option (Nat × List UInt8)
  | 0, _, _ => none
  | f + 1, pos, o => if 8 * s.size < pos + 3 then none else
    match blockP s most (bitsVal s (pos + 1) 2) (pos + 3) o with
    | none => none
    | some (p, o') => if bitsVal s pos 1 = 0 then runG s most f p o' else some (p, o')
def runP (s : ByteArray) (most pos : Nat) (o : List UInt8) : Option (Nat × List UInt8) := runG s most (8 * s.size + 1 - pos) pos o
theorem takeP_some {s : ByteArray} {pos n v p : Nat} (h : takeP s pos n = some (v, p)) : pos + n ≤ 8 * s.size ∧ v = bitsVal s pos n ∧ p = pos + n := by
  unfold takeP at h
  split at h
  · injection h with h; injection h with h1 h2; exact ⟨by assumption, h1.symm, h2.symm⟩
  · cases h
theorem takeP_yes {s : ByteArray} {pos n : Nat} (h : pos + n ≤ 8 * s.size) : takeP s pos n = some (bitsVal s pos n, pos + n) := if_pos h
theorem takeP_no {s : ByteArray} {pos n : Nat} (h : ¬ pos + n ≤ 8 * s.size) : takeP s pos n = none := if_neg h
theorem copyP_lt {far : List Nat} {s : ByteArray} {most x p : Nat} {o : List UInt8} {q : Nat} {o' : List UInt8} (h : copyP far s most x p o = some (q, o')) : p < q ∧ q ≤ 8 * s.size := by
  unfold copyP at h
  split at h
  · cases h
  · rename_i v q1 h1
    obtain ⟨_, _, e1⟩ := takeP_some h1
    split at h
    · cases h
    · rename_i k q2 h2
      obtain ⟨_, e2, e2'⟩ := symP_lt h2
      split at h
      · cases h
      · split at h
        · cases h
        · rename_i y q3 h3
          obtain ⟨a1, _, e3⟩ := takeP_some h3
          split at h
          · cases h
          · cases hr : repP most (disBase.getD k 0 + y) (lenBase.getD (x - 257) 0 + v) o with
            | none => rw [hr] at h; cases h
            | some r => rw [hr] at h; injection h with h; injection h with h4 _; omega
theorem repP_len {most d : Nat} : ∀ {n : Nat} {o o' : List UInt8}, repP most d n o = some o' → o.length ≤ most → o'.length ≤ most
  | 0, o, o', h, hl => by injection h with h; rw [← h]; exact hl
  | n + 1, o, o', h, hl => by
    rw [repP] at h
    split at h
    · cases h
    · exact repP_len h (by simp; omega)
end Go.Proofs.YtjilhneefbakhaaDoor.Inf
