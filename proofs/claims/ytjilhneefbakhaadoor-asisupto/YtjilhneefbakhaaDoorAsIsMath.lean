/- What a text of blocks that are not packed gives, told on lists. -/
import Derived.Test.YtjilhneefbakhaaDoorInfInf
import Derived.Test.YtjilhneefbakhaaDoorKeepAsIs
namespace Go.Proofs.YtjilhneefbakhaaDoor.Inf
open Go.RowKit Go.Proofs.YtjilhneefbakhaaDoor.Sha Go.Proofs.YtjilhneefbakhaaDoor.Keep

theorem bitsVal_add (s : ByteArray) (p m n : Nat) : bitsVal s p (m + n) = bitsVal s p m + 2 ^ m * bitsVal s (p + m) n := by
  induction n with
  | zero => simp [bitsVal]
  | succ n ih =>
    show bitsVal s p (m + n) + bitAt s (p + (m + n)) * 2 ^ (m + n) = _
    rw [ih, bitsVal, Nat.mul_add, Nat.pow_add, ← Nat.add_assoc p m n, Nat.add_assoc, Nat.mul_left_comm (2 ^ m)]
theorem bitAt_at (s : ByteArray) (a i : Nat) (hi : i < 8) : bitAt s (8 * a + i) = (s.data.toList.getD a 0).toNat / 2 ^ i % 2 := by
  rw [bitAt, show (8 * a + i) / 8 = a by omega, show (8 * a + i) % 8 = i by omega]
theorem bits_one (s : ByteArray) (a : Nat) : bitsVal s (8 * a) 1 = (s.data.toList.getD a 0).toNat % 2 := by
  simp only [bitsVal]
  rw [bitAt_at s a 0 (by decide)]; simp
theorem bits_kind (s : ByteArray) (a : Nat) (h : (s.data.toList.getD a 0).toNat < 2) : bitsVal s (8 * a + 1) 2 = 0 := by
  simp only [bitsVal]
  rw [Nat.add_zero, show 8 * a + 1 + 1 = 8 * a + 2 by omega, bitAt_at s a 1 (by decide), bitAt_at s a 2 (by decide)]
  generalize (s.data.toList.getD a 0).toNat = x at *
  omega
theorem bits_byte (s : ByteArray) (a : Nat) : bitsVal s (8 * a) 8 = (s.data.toList.getD a 0).toNat := by
  simp only [bitsVal]
  rw [bitAt_at s a 0 (by decide), bitAt_at s a 1 (by decide), bitAt_at s a 2 (by decide), bitAt_at s a 3 (by decide), bitAt_at s a 4 (by decide), bitAt_at s a 5 (by decide), bitAt_at s a 6 (by decide), bitAt_at s a 7 (by decide)]
  have hx : (s.data.toList.getD a 0).toNat < 256 := UInt8.toNat_lt _
  generalize (s.data.toList.getD a 0).toNat = x at *
  omega
theorem bits_two (s : ByteArray) (a : Nat) : bitsVal s (8 * a) 16 = (s.data.toList.getD a 0).toNat + 256 * (s.data.toList.getD (a + 1) 0).toNat := by
  rw [bitsVal_add s (8 * a) 8 8, bits_byte, show 8 * a + 8 = 8 * (a + 1) by omega, bits_byte]
/-- Bytes as they are: as many as there are, if so many may come. -/
theorem bytesP_eq (s : ByteArray) (most : Nat) (piece : List UInt8) : ∀ (a : Nat) (out rest : List UInt8), s.data.toList.drop a = piece ++ rest → out.length ≤ most →
    bytesP s most piece.length (8 * a) out = if out.length + piece.length ≤ most then some (8 * (a + piece.length), out ++ piece) else none := by
  induction piece with
  | nil => intro a out rest _ hm; simp [bytesP, hm]
  | cons c cs ih =>
    intro a out rest h hm
    have hl : s.data.toList.length = s.size := by simp
    have hlen := congrArg List.length h
    rw [List.length_drop, hl] at hlen
    simp at hlen
    have hc : s.data.toList.getD a 0 = c := by
      have := congrArg (·[0]?) h
      simp [List.getElem?_drop] at this
      rw [List.getD_eq_getElem?_getD]
      simp [this]
    rw [List.length_cons, bytesP, bits_byte, hc, UInt8.ofNat_toNat]
    by_cases he : out.length = most
    · rw [if_neg (by intro hh; exact hh.2 he), if_neg (by omega)]
    · rw [if_pos ⟨by omega, he⟩, show 8 * a + 8 = 8 * (a + 1) by omega, ih (a + 1) (out ++ [c]) rest (by rw [← List.drop_drop, h]; rfl) (by simp; omega)]
      simp only [List.length_append, List.length_cons, List.length_nil, List.append_assoc, List.cons_append, List.nil_append]
      by_cases hf : out.length + (cs.length + 1) ≤ most
      · rw [if_pos (by omega), if_pos hf, show a + 1 + cs.length = a + (cs.length + 1) by omega]
      · rw [if_neg (by omega), if_neg hf]
theorem xor_full (n : Nat) (h : n ≤ 65535) : n ^^^ (65535 - n) = 65535 := by
  have e : (BitVec.ofNat 16 n).toNat = n := by rw [BitVec.toNat_ofNat]; exact Nat.mod_eq_of_lt (by omega)
  have h1 : (BitVec.ofNat 16 n ^^^ ~~~ (BitVec.ofNat 16 n)) = BitVec.allOnes 16 := by ext i hi; rw [BitVec.getElem_xor, BitVec.getElem_not, BitVec.getElem_allOnes]; cases (BitVec.ofNat 16 n)[i] <;> rfl
  have h2 := congrArg BitVec.toNat h1
  rw [BitVec.toNat_xor, BitVec.toNat_not, e] at h2
  exact h2
theorem lowL_two (n : Nat) : lowL n 2 = [UInt8.ofNat (n % 256), UInt8.ofNat (n / 256 % 256)] := rfl
theorem nat_two (n : Nat) (h : n ≤ 65535) : (UInt8.ofNat (n % 256)).toNat + 256 * (UInt8.ofNat (n / 256 % 256)).toNat = n := by
  rw [UInt8.toNat_ofNat', UInt8.toNat_ofNat']; omega
theorem getD_drop (l : List UInt8) (a i : Nat) : l.getD (a + i) 0 = (l.drop a).getD i 0 := by
  rw [List.getD_eq_getElem?_getD, List.getD_eq_getElem?_getD, List.getElem?_drop]
theorem storedP_eq (s : ByteArray) (most pos a : Nat) (piece out rest : List UInt8) (h : s.data.toList.drop a = lowL piece.length 2 ++ (lowL (65535 - piece.length) 2 ++ (piece ++ rest))) (hp : piece.length ≤ 65535) (hm : out.length ≤ most) (hpos : (pos + 7) / 8 * 8 = 8 * a) :
    storedP s most pos out = if out.length + piece.length ≤ most then some (8 * (a + 4 + piece.length), out ++ piece) else none := by
  have hl : s.data.toList.length = s.size := by simp
  have hlen := congrArg List.length h
  rw [List.length_drop, hl] at hlen
  simp [lowL_len] at hlen
  have g0 : s.data.toList.getD a 0 = UInt8.ofNat (piece.length % 256) := by rw [← Nat.add_zero a, getD_drop, h]; rfl
  have g1 : s.data.toList.getD (a + 1) 0 = UInt8.ofNat (piece.length / 256 % 256) := by rw [getD_drop, h]; rfl
  have g2 : s.data.toList.getD (a + 2) 0 = UInt8.ofNat ((65535 - piece.length) % 256) := by rw [getD_drop, h]; rfl
  have g3 : s.data.toList.getD (a + 2 + 1) 0 = UInt8.ofNat ((65535 - piece.length) / 256 % 256) := by rw [Nat.add_assoc, getD_drop, h]; rfl
  have hd : s.data.toList.drop (a + 4) = piece ++ rest := by rw [← List.drop_drop, h]; rfl
  have b0 : bitsVal s (8 * a) 16 = piece.length := by rw [bits_two, g0, g1]; exact nat_two _ hp
  have b1 : bitsVal s (8 * a + 16) 16 = 65535 - piece.length := by rw [show 8 * a + 16 = 8 * (a + 2) by omega, bits_two, g2, g3]; exact nat_two _ (by omega)
  rw [storedP, hpos, b0, b1, if_pos ⟨by omega, xor_full _ hp⟩, show 8 * a + 32 = 8 * (a + 4) by omega]
  exact bytesP_eq s most piece (a + 4) out rest hd hm
theorem run_asIs (s : ByteArray) (most : Nat) (tail : List UInt8) : ∀ (ps : List (List UInt8)) (a : Nat) (out : List UInt8), s.data.toList.drop a = asIsL ps ++ tail → (∀ p ∈ ps, p.length ≤ 65535) → out.length ≤ most →
    Run s most (ps.length + 1) (8 * a) out (if out.length + ps.flatten.length ≤ most then some (8 * (a + (asIsL ps).length), out ++ ps.flatten) else none) := by
  intro ps
  have hl : s.data.toList.length = s.size := by simp
  induction ps with
  | nil =>
    intro a out h _ hm
    have hlen := congrArg List.length h
    rw [List.length_drop, hl] at hlen
    simp [asIsL, lowL_len] at hlen
    have g0 : s.data.toList.getD a 0 = 1 := by rw [← Nat.add_zero a, getD_drop, h]; rfl
    have hd : s.data.toList.drop (a + 1) = lowL ([] : List UInt8).length 2 ++ (lowL (65535 - ([] : List UInt8).length) 2 ++ ([] ++ tail)) := by rw [← List.drop_drop, h]; rfl
    simp only [List.length_nil, Run]
    refine ⟨by omega, bits_kind s a (by rw [g0]; decide), ?_⟩
    rw [storedP_eq s most (8 * a + 3) (a + 1) [] out tail hd (by simp) hm (by omega), bits_one, g0]
    simp only [List.length_nil, Nat.add_zero, List.append_nil, List.flatten_nil]
    rw [if_pos hm, if_pos hm]
    simp only [After]
    exact .inl ⟨by decide, by rw [show a + 1 + 4 = a + (asIsL []).length by simp [asIsL, lowL_len]]⟩
  | cons p ps ih =>
    intro a out h hp hm
    have hpl : p.length ≤ 65535 := hp p (by simp)
    have hall : asIsL (p :: ps) = blockL p ++ asIsL ps := by simp [asIsL]
    have hlen := congrArg List.length h
    rw [List.length_drop, hl, hall] at hlen
    simp [blockL, lowL_len] at hlen
    rw [hall] at h
    have g0 : s.data.toList.getD a 0 = 0 := by rw [← Nat.add_zero a, getD_drop, h]; rfl
    have hd : s.data.toList.drop (a + 1) = lowL p.length 2 ++ (lowL (65535 - p.length) 2 ++ (p ++ (asIsL ps ++ tail))) := by
      rw [← List.drop_drop, h]; simp only [blockL, List.append_assoc]; rfl
    have hd2 : s.data.toList.drop (a + 1 + 4 + p.length) = asIsL ps ++ tail := by
      rw [← List.drop_drop, ← List.drop_drop, hd]
      show (p ++ (asIsL ps ++ tail)).drop p.length = _
      simp
    rw [Run]
    refine ⟨by omega, bits_kind s a (by rw [g0]; decide), ?_⟩
    rw [storedP_eq s most (8 * a + 3) (a + 1) p out _ hd hpl hm (by omega), bits_one, g0]
    by_cases hf : out.length + p.length ≤ most
    · rw [if_pos hf]
      simp only [After]
      refine .inr ⟨by decide, ?_⟩
      have := ih (a + 1 + 4 + p.length) (out ++ p) hd2 (fun q hq => hp q (by simp [hq])) (by simp; omega)
      have e1 : (out ++ p).length + ps.flatten.length = out.length + (p :: ps).flatten.length := by simp; omega
      have e2 : a + 1 + 4 + p.length + (asIsL ps).length = a + (asIsL (p :: ps)).length := by rw [hall]; simp [blockL, lowL_len]; omega
      have e3 : out ++ p ++ ps.flatten = out ++ (p :: ps).flatten := by simp
      rw [e1, e2, e3] at this
      exact this
    · rw [if_neg hf, if_neg (by simp; omega)]
      simp only [After]
/-- A text of such blocks, and what is behind it. -/
theorem end_asIs (s : ByteArray) (k : Nat) : endP s (8 * k) ↔ k = s.size := by
  rw [endP, show 8 * k % 8 = 0 by omega, show (8 * k + 7) / 8 = k by omega]
  simp
end Go.Proofs.YtjilhneefbakhaaDoor.Inf
