/- The document's codes. -/
import Derived.Test.YtjilhneefbakhaaDoorRefT
namespace Go.Proofs.YtjilhneefbakhaaDoor.Inf
open Go.RowKit Go.Proofs.YtjilhneefbakhaaDoor.Sha

/-- A list of codes in memory: three numbers a code. -/
def cells3 (L : List (Nat × Nat × Nat)) : List Value := L.flatMap fun c => [nv c.1, nv c.2.1, nv c.2.2]
theorem cells3_len (L : List (Nat × Nat × Nat)) : (cells3 L).length = L.length * 3 := by
  induction L with
  | nil => rfl
  | cons c L ih => simp only [cells3, List.flatMap_cons, List.length_append, List.length_cons, List.length_nil] at *; omega
theorem cells3_app (A B : List (Nat × Nat × Nat)) : cells3 (A ++ B) = cells3 A ++ cells3 B := by simp [cells3]
theorem cells3_get : ∀ (L : List (Nat × Nat × Nat)) (i : Nat) (c : Nat × Nat × Nat), L[i]? = some c → (cells3 L)[3 * i]? = some (nv c.1) ∧ (cells3 L)[3 * i + 1]? = some (nv c.2.1) ∧ (cells3 L)[3 * i + 2]? = some (nv c.2.2)
  | [], i, c, h => by simp at h
  | d :: L, 0, c, h => by
    simp at h; subst h
    exact ⟨rfl, rfl, rfl⟩
  | d :: L, i + 1, c, h => by
    rw [List.getElem?_cons_succ] at h
    obtain ⟨h1, h2, h3⟩ := cells3_get L i c h
    have e : cells3 (d :: L) = nv d.1 :: nv d.2.1 :: nv d.2.2 :: cells3 L := rfl
    rw [e]
    refine ⟨?_, ?_, ?_⟩
    · rw [show 3 * (i + 1) = 3 * i + 1 + 1 + 1 by omega, List.getElem?_cons_succ, List.getElem?_cons_succ, List.getElem?_cons_succ]; exact h1
    · rw [show 3 * (i + 1) + 1 = (3 * i + 1) + 1 + 1 + 1 by omega, List.getElem?_cons_succ, List.getElem?_cons_succ, List.getElem?_cons_succ]; exact h2
    · rw [show 3 * (i + 1) + 2 = (3 * i + 2) + 1 + 1 + 1 by omega, List.getElem?_cons_succ, List.getElem?_cons_succ, List.getElem?_cons_succ]; exact h3
/-- The codes of the lengths up to N, and of the next length those of the first k symbols. -/
def codesK (lens : List Nat) (N k : Nat) : List (Nat × Nat × Nat) := codesN lens N ++ mkC (N + 1) (2 * nx lens N) (row lens (N + 1) k)
theorem codesK_zero (lens : List Nat) (N : Nat) : codesK lens N 0 = codesN lens N := by simp [codesK, row, mkC]
theorem codesK_all (lens : List Nat) (N : Nat) : codesK lens N lens.length = codesN lens (N + 1) := rfl
theorem codesK_yes (lens : List Nat) (N k : Nat) (h : lens.getD k 0 = N + 1) : codesK lens N (k + 1) = codesK lens N k ++ [(N + 1, 2 * nx lens N + (row lens (N + 1) k).length, k)] := by
  unfold codesK
  rw [row, if_pos h, mkC_append, List.append_assoc]; rfl
theorem codesK_no (lens : List Nat) (N k : Nat) (h : lens.getD k 0 ≠ N + 1) : codesK lens N (k + 1) = codesK lens N k := by
  unfold codesK
  rw [row, if_neg h]
theorem codesN_len (lens : List Nat) : ∀ N, (codesN lens N).length = off lens N
  | 0 => rfl
  | N + 1 => by rw [codesN, List.length_append, mkC_len, codesN_len lens N, off]; rfl
theorem codesK_len (lens : List Nat) (N k : Nat) : (codesK lens N k).length ≤ lens.length + k := by
  unfold codesK
  rw [List.length_append, mkC_len, codesN_len]
  have := off_le lens N
  have := row_len_le lens (N + 1) k
  omega
theorem codeTInfo : (Tryd.prog.info? 71).map (fun i => (i.zero, i.size, i.bytes)) = some (some (.agg #[.int .i64 0, .int .i64 0, .int .i64 0]), 3, 24) := by kernel_rfl
theorem info_parts3 {P : Program} {t : TypeId} {z : Value} {n b : Nat} (h : (P.info? t).map (fun i => (i.zero, i.size, i.bytes)) = some (some z, n, b)) : ∃ i, P.info? t = some i ∧ i.zero = some z ∧ i.size = n ∧ i.bytes = b := by
  cases hi : P.info? t with
  | none => rw [hi] at h; cases h
  | some i =>
    rw [hi] at h
    injection h with h
    injection h with h1 h
    injection h with h2 h3
    exact ⟨i, rfl, h1, h2, h3⟩
theorem add_shift (G S r M : Nat) (hG : S + r * 2 ^ (15 - M) = G) (hG0 : G ≤ 655360000) (hD : 2 ^ (15 - M) ≤ 32768) : wrap64 ((G : Int) + wrap64 (2 ^ (15 - M))) = ((S + (r + 1) * 2 ^ (15 - M) : Nat) : Int) := by
  have e1 : (2 : Int) ^ (15 - M) = ((2 ^ (15 - M) : Nat) : Int) := by simp
  rw [e1, Nat.add_mul, Nat.one_mul, ← Nat.add_assoc, hG]
  clear hG e1
  generalize 2 ^ (15 - M) = d at *
  unfold wrap64; omega
section
variable {lb lo cap : Nat} {lens : List Nat} {w : World}
set_option maxRecDepth 100000 in
set_option maxHeartbeats 4000000 in
theorem coded_walk (hL : LensAt w lb lo lens) (hne : 0 < lens.length) (hl : lens.length ≤ 1000) :
    Calls Tryd.prog 26 #[.slice (some ⟨lb, lo, none⟩) lens.length cap] w fun e w' => ∃ v, e = .returned (.tuple #[v, .int .i64 ((sumN lens 15 : Nat) : Int)]) ∧ Below w.heap.size w w' ∧ OwnK 3 w' w.heap.size v (off lens 15) (cells3 (codesN lens 15)) := by
  have hlb : lb < w.heap.size := lt_of_cell (hL 0 lens[0] (List.getElem?_eq_getElem hne))
  have HL : Hid (∀ wr, Below w.heap.size w wr → ∀ j x, lens[j]? = some x → wr.cell? ⟨lb, lo + j, none⟩ = some (.int .i64 ((x : Nat) : Int))) := fun wr hb j x hj => by
    rw [hb.cell (p := ⟨lb, lo + j, none⟩) hlb]; exact hL j x hj
  clear hL
  obtain ⟨i0, hi, hz0, hz1, hz2⟩ := info_parts3 codeTInfo
  go_enter Tryd.func26, Tryd.ntmps26
  go_wp2
  go_loopw [4, 5, 6, 7, 8] (fun v nxt sm n _ wr => ∃ N : Nat, N ≤ 15 ∧ n = .int .i64 ((N + 1 : Nat) : Int) ∧ nxt = .int .i64 ((nx lens N : Nat) : Int) ∧ sm = .int .i64 ((sumN lens N : Nat) : Int) ∧ Below w.heap.size w wr ∧ OwnK 3 wr w.heap.size v (codesN lens N).length (cells3 (codesN lens N))) (fun _ _ _ n _ _ => 16 - (intOf n).toNat)
  case atStart => exact ⟨0, by omega, rfl, rfl, rfl, Below.refl _ _, OwnK.nil _ _ _⟩
  case round =>
    obtain ⟨N, hN, rfl, rfl, rfl, hB, hO⟩ := hrel
    have hnx : nx lens N ≤ 1000 * 32768 := by
      have h1 := nx_lt lens N
      have h2 : 2 ^ N ≤ 2 ^ 15 := Nat.pow_le_pow_right (by decide) hN
      have h3 : lens.length * (2 ^ N - 1) ≤ 1000 * 32768 := Nat.mul_le_mul hl (by omega)
      omega
    have hsm : sumN lens N ≤ 15 * (1000 * 32768) := by
      have h1 := sumN_le lens N
      have h2 : N * (lens.length * 32768) ≤ 15 * (1000 * 32768) := Nat.mul_le_mul hN (Nat.mul_le_mul_right _ hl)
      omega
    obtain ⟨M, HM⟩ : ∃ M, Hid (N + 1 = M) := ⟨_, rfl⟩
    have hM1 : M ≤ 16 := by have := HM.out; omega
    rw [HM.out]
    obtain ⟨X, HX⟩ : ∃ X, Hid (nx lens N = X) := ⟨_, rfl⟩
    rw [HX.out] at hnx ⊢
    obtain ⟨S, HS⟩ : ∃ S, Hid (sumN lens N = S) := ⟨_, rfl⟩
    rw [HS.out] at hsm ⊢
    by_cases hlt : M ≤ 15
    · have hlt' : (M : Int) ≤ 15 := by omega
      go_wp2
      go_loopw [4, 5, 6, 8] (fun v nxt sm i wr => ∃ k : Nat, k ≤ lens.length ∧ i = .int .i64 (k : Int) ∧ nxt = .int .i64 ((2 * X + (row lens M k).length : Nat) : Int) ∧ sm = .int .i64 ((S + (row lens M k).length * 2 ^ (15 - M) : Nat) : Int) ∧ Below w.heap.size w wr ∧ OwnK 3 wr w.heap.size v (codesK lens N k).length (cells3 (codesK lens N k))) (fun _ _ _ i _ => lens.length - (intOf i).toNat)
      case atStart => exact ⟨0, by omega, rfl, by simp [row], by simp [row], hB, by rw [codesK_zero]; exact hO⟩
      case round =>
        clear hB hO
        obtain ⟨k, hk, rfl, rfl, rfl, hB, hO⟩ := hrel
        by_cases hlt2 : k < lens.length
        · have hlt2' : (k : Int) < (lens.length : Int) := by omega
          obtain ⟨x, HN⟩ : ∃ n, Hid (lens.getD k 0 = n ∧ lens[k]? = some n) := ⟨_, rfl, by rw [List.getD_eq_getElem?_getD, List.getElem?_eq_getElem hlt2]; rfl⟩
          have hc := HL.out wr hB k x HN.out.2
          have hrk := row_len_le lens M k
          have hD15 : 2 ^ (15 - M) ≤ 32768 := (Nat.pow_le_pow_right (by decide) (by omega) : 2 ^ (15 - M) ≤ 2 ^ 15)
          obtain ⟨r, Hr⟩ : ∃ r, Hid ((row lens M k).length = r) := ⟨_, rfl⟩
          rw [Hr.out] at hrk ⊢
          have hG0 : S + r * 2 ^ (15 - M) ≤ 20 * (1000 * 32768) := by
            have : r * 2 ^ (15 - M) ≤ 1000 * 32768 := Nat.mul_le_mul (by omega) hD15
            omega
          obtain ⟨G, HG⟩ : ∃ G, Hid (S + r * 2 ^ (15 - M) = G) := ⟨_, rfl⟩
          rw [HG.out] at hG0 ⊢
          obtain ⟨T, HT⟩ : ∃ T, Hid (2 * X + r = T) := ⟨_, rfl⟩
          have hT0 : T ≤ 100000000 := by have := HT.out; omega
          rw [HT.out]
          by_cases he : x = M
          · have heq : ((x : Int) == (M : Int)) = true := by simp; omega
            have hsh : wrap64 (15 - (M : Int)) = ((15 - M : Nat) : Int) := by unfold wrap64; omega
            have hsh2 : ¬ (((15 - M : Nat) : Int) < 0) := by omega
            have hcl := codesK_len lens N k
            obtain ⟨C, HC⟩ : ∃ C, Hid (codesK lens N k = C) := ⟨_, rfl⟩
            rw [HC.out] at hO hcl
            obtain ⟨Q, HQ⟩ : ∃ Q, Hid (C.length = Q) := ⟨_, rfl⟩
            rw [HQ.out] at hO hcl
            clear he
            have hx3 : ∀ u ∈ [nv M, nv T, nv k], u.oneCell' = true := by intro u hu; simp at hu; rcases hu with rfl | rfl | rfl <;> rfl
            go_wp2_with (at_builtin; refine wpList_append_K rfl _ _ 67 rfl 3 (by decide) w.heap.size 71 i0 _ 24 Tryd.underlying67 hi hz0 hz1 hz2 rfl _ Q (cells3 C) rfl (hO.step (below_one _ _)) ⟨wr.heap.size, 0, none⟩ 1 [nv M, nv T, nv k] rfl rfl ?_ hx3 (by unfold maxLen; omega) (by omega) (by have := hB.size; simp; omega) ?_)
            · exact fun j u h => h
            intro g' cap' w2 hO2 hb2
            have hB2 : Below w.heap.size w w2 := (hB.trans ((below_one wr _).mono hB.size)).trans hb2
            have HW : Hid (wrap64 ((G : Int) + wrap64 (2 ^ (15 - M))) = ((S + (r + 1) * 2 ^ (15 - M) : Nat) : Int)) := add_shift G S r M HG.out (by omega) hD15
            have HK : Hid (codesK lens N (k + 1) = C ++ [(M, T, k)] ∧ (row lens M (k + 1)).length = r + 1 ∧ (C ++ [(M, T, k)]).length = Q + 1 ∧ cells3 (C ++ [(M, T, k)]) = cells3 C ++ [nv M, nv T, nv k]) := by
              have hx := HN.out.1
              have hxM : x = M := by have := heq; simp at this; omega
              refine ⟨?_, ?_, by simp [HQ.out], by rw [cells3_app]; rfl⟩
              · rw [codesK_yes lens N k (by rw [hx, HM.out]; exact hxM), HC.out, HM.out, HX.out, Hr.out, HT.out]
              · rw [row, if_pos (by rw [hx]; exact hxM)]; simp [Hr.out]
            clear hO hb2 hB
            go_wp2
            go_roundw
            case rel => exact ⟨k + 1, by omega, by go_num, by rw [HK.out.2.1, ← Nat.add_assoc, HT.out]; congr 1, by rw [HK.out.2.1]; exact congrArg (Value.int .i64) HW.out, hB2, by rw [HK.out.1, HK.out.2.2.1, HK.out.2.2.2]; exact hO2⟩
            case measure => simp [intOf]; omega
          · have heq : ((x : Int) == (M : Int)) = false := by rw [beq_eq_false_iff_ne]; omega
            have HK : Hid (codesK lens N (k + 1) = codesK lens N k ∧ (row lens M (k + 1)).length = r) := by
              refine ⟨codesK_no lens N k (by rw [HN.out.1, HM.out]; exact he), ?_⟩
              rw [row, if_neg (by rw [HN.out.1]; exact he)]; exact Hr.out
            clear he
            go_wp2
            go_roundw
            case rel => exact ⟨k + 1, by omega, by go_num, by rw [HK.out.2, HT.out], by rw [HK.out.2, HG.out], hB, by rw [HK.out.1]; exact hO⟩
            case measure => simp [intOf]; omega
        · have hlt2' : ¬ (k : Int) < (lens.length : Int) := by omega
          have hke : k = lens.length := by omega
          have HF : Hid (2 * X + (row lens M k).length = nx lens M ∧ S + (row lens M k).length * 2 ^ (15 - M) = sumN lens M ∧ codesK lens N k = codesN lens M) := by
            subst hke
            refine ⟨?_, ?_, ?_⟩
            · rw [← HX.out, ← HM.out]; rfl
            · rw [← HS.out, ← HM.out]; rfl
            · rw [← HM.out]; rfl
          rw [HF.out.1, HF.out.2.1]
          rw [HF.out.2.2] at hO
          clear hke
          go_wp2
          go_roundw
          case rel => exact ⟨M, hlt, by go_num, rfl, rfl, hB, hO⟩
          case measure => simp [intOf]; omega
    · have hlt' : ¬ (M : Int) ≤ 15 := by omega
      have hN15 : N = 15 := by have := HM.out; omega
      have HO : Hid (OwnK 3 wr w.heap.size u4 (off lens 15) (cells3 (codesN lens 15))) := by rw [← codesN_len, ← hN15]; exact hO
      have HS2 : Hid (S = sumN lens 15) := by rw [← HS.out, hN15]; rfl
      clear hO hN15
      go_wp2
      go_ret2
      exact ⟨_, by rw [HS2.out]; rfl, hB, HO.out⟩
theorem coded_n (n : Nat) (hn : n = lens.length) (hL : LensAt w lb lo lens) (hne : 0 < lens.length) (hl : lens.length ≤ 1000) :
    Calls Tryd.prog 26 #[.slice (some ⟨lb, lo, none⟩) n cap] w fun e w' => ∃ v, e = .returned (.tuple #[v, .int .i64 ((sumN lens 15 : Nat) : Int)]) ∧ Below w.heap.size w w' ∧ OwnK 3 w' w.heap.size v (off lens 15) (cells3 (codesN lens 15)) := by
  subst hn; exact coded_walk hL hne hl
end
end Go.Proofs.YtjilhneefbakhaaDoor.Inf
