/- Sets of codes in memory; complete, lone. -/
import Derived.Test.YtjilhneefbakhaaDoorCodeSpec
import Derived.Test.YtjilhneefbakhaaDoorScopes
import Derived.Deep.MidRow
namespace Go.Proofs.YtjilhneefbakhaaDoor.Inf
open Go.RowKit Go.Proofs.YtjilhneefbakhaaDoor.Sha

/-- A block that the machine leaves as it is. -/
def Apart (mb : Nat) (w : World) (k : Nat) : Prop := k < w.heap.size ∧ k ≠ mb ∧ ¬ outB mb w k
theorem Kept.apart {mb base k : Nat} {w w' : World} (h : Kept mb base w w') (a : Apart mb w k) : Apart mb w' k ∧ w'.heap[k]? = w.heap[k]? :=
  ⟨⟨Nat.lt_of_lt_of_le a.1 h.size, a.2.1, fun ho => a.2.2 (h.out k a.1 ho)⟩, h.old k a.1 a.2.1 a.2.2⟩
/-- How many codes of a length there are. -/
def cn (lens : List Nat) (n : Nat) : Nat := if n = 0 then 0 else cnt lens n
/-- A set of codes in block cb from cell o on. -/
structure CodeK (mb : Nat) (w : World) (cb o : Nat) (lens : List Nat) : Prop where
  ap : Apart mb w cb
  cnts : ∀ n, n ≤ 15 → w.cell? ⟨cb, o + n, none⟩ = some (.int .i64 (cn lens n : Int))
  syms : ∃ g cap l, Apart mb w g ∧ w.cell? ⟨cb, o + 16, none⟩ = some (.slice (some ⟨g, 0, none⟩) l.length cap) ∧ Sorted lens l ∧ ∀ j x, l[j]? = some x → w.cell? ⟨g, j, none⟩ = some (.int .i64 ((x : Nat) : Int))
theorem CodeK.kept {mb base : Nat} {w w' : World} {cb o : Nat} {lens : List Nat} (h : CodeK mb w cb o lens) (hk : Kept mb base w w') : CodeK mb w' cb o lens := by
  obtain ⟨a1, e1⟩ := hk.apart h.ap
  obtain ⟨g, cap, l, ag, hc, hs, hl⟩ := h.syms
  obtain ⟨a2, e2⟩ := hk.apart ag
  refine ⟨a1, fun n hn => ?_, g, cap, l, a2, ?_, hs, fun j x hj => ?_⟩
  · rw [World.cell?_of_block (a := ⟨cb, o + n, none⟩) (w := w) e1]; exact h.cnts n hn
  · rw [World.cell?_of_block (a := ⟨cb, o + 16, none⟩) (w := w) e1]; exact hc
  · rw [World.cell?_of_block (a := ⟨g, j, none⟩) (w := w) e2]; exact hl j x hj
theorem cn_le (lens : List Nat) (n : Nat) : cn lens n ≤ lens.length := by unfold cn; split; exact Nat.zero_le _; exact cnt_le _ _
theorem sumN_step (lens : List Nat) (k : Nat) : sumN lens (k - 1) + cn lens k * 2 ^ (15 - k) = sumN lens k := by
  cases k with
  | zero => simp [sumN, cn]
  | succ k => simp [sumN, cn]
theorem sumN_le (lens : List Nat) : ∀ n, sumN lens n ≤ n * (lens.length * 32768)
  | 0 => by simp [sumN]
  | n + 1 => by
    have h := sumN_le lens n
    have h1 := cnt_le lens (n + 1)
    have h2 : 2 ^ (15 - (n + 1)) ≤ 2 ^ 15 := Nat.pow_le_pow_right (by decide) (by omega)
    have h3 : cnt lens (n + 1) * 2 ^ (15 - (n + 1)) ≤ lens.length * 32768 := Nat.mul_le_mul h1 h2
    rw [sumN, Nat.add_mul]; omega
def cntL (lens : List Nat) : List Value := (List.range 16).map fun n => .int .i64 (cn lens n : Int)
theorem cntL_get (lens : List Nat) (n : Nat) (hn : n < 16) : (cntL lens)[n]? = some (.int .i64 (cn lens n : Int)) := by
  simp [cntL, hn]
theorem cntL_len (lens : List Nat) : (cntL lens).length = 16 := by simp [cntL]
theorem CodeK.range {mb : Nat} {w : World} {cb o : Nat} {lens : List Nat} (h : CodeK mb w cb o lens) : w.rangeAt cb o (cntL lens) := by
  intro j v hj
  have hj' : j < 16 := by rw [← cntL_len lens]; exact (List.getElem?_eq_some_iff.1 hj).1
  rw [cntL_get lens j hj'] at hj
  injection hj with hj
  rw [← hj]; exact h.cnts j (by omega)
theorem arr16Info : (Tryd.prog.info? 75).map (·.size) = some 16 := by kernel_rfl
theorem intAgg (w : World) : (isAgg 3).run Tryd.prog w = .ok false w := by kernel_rfl
theorem intSize (w : World) : (sizeOf 3).run Tryd.prog w = .ok 1 w := by kernel_rfl
/-- An element of an array of numbers, by value. -/
theorem index_ints {t n : Nat} (hu : Tryd.prog.underlying t = some (.array n 3)) (L : List Value) (k : Nat) (v : Value) (hk : k < n) (hv : L[k]? = some v) (w : World) : (Instr.index t (.agg L.toArray) (.int .i64 (k : Int))).run Tryd.prog w = .ok v w := by
  have h1 : (0 : Int) ≤ (k : Int) ∧ (k : Int) < (n : Int) := by omega
  have hv' : L.toArray[k]? = some v := by simpa using hv
  simp [Instr.index, asIntOf, run_underlying hu, hk, part, hv]
theorem sum_wrap (S c m : Nat) (hS : S ≤ 1000000000000) (hc : c ≤ 1000) (hm : m ≤ 15) : wrap64 ((S : Int) + wrap64 ((c : Int) * 2 ^ m)) = ((S + c * 2 ^ m : Nat) : Int) := by
  have h2 : 2 ^ m ≤ 2 ^ 15 := Nat.pow_le_pow_right (by decide) hm
  have h3 : c * 2 ^ m ≤ 1000 * 2 ^ 15 := Nat.mul_le_mul hc h2
  have e : (c : Int) * 2 ^ m = ((c * 2 ^ m : Nat) : Int) := by simp
  rw [e]
  generalize c * 2 ^ m = z at *
  unfold wrap64; omega
section
variable {mb cb o : Nat} {lens : List Nat} {w : World}
set_option maxRecDepth 100000 in
set_option maxHeartbeats 1000000 in
theorem complete_walk (h : CodeK mb w cb o lens) (hl : lens.length ≤ 1000) :
    Calls Tryd.prog 51 #[.pointer (some ⟨cb, o, none⟩)] w fun e w' => e = .returned (.bool (decide (full lens))) ∧ w' = w := by
  have HR : Hid (w.rangeAt cb o (cntL lens)) := h.range
  have HI : Hid ((Tryd.prog.info? 75).map (·.size) = some (cntL lens).length) := by show _ = _; rw [cntL_len]; exact arr16Info
  obtain ⟨L, HL⟩ : ∃ L, Hid (cntL lens = L) := ⟨_, rfl⟩
  rw [HL.out] at HR HI
  have hLl : L.length = 16 := by rw [← HL.out]; exact cntL_len _
  go_enter Tryd.func51, Tryd.ntmps51
  go_wp2_with (refine wpList_load_mid rfl 75 (.tmp 8) rfl cb o rfl L _ HR.out Tryd.underlying75 rfl HI.out ?_)
  go_loopw [3, 10] (fun v i wr => ∃ (k : Nat), k ≤ 16 ∧ i = .int .i64 k ∧ v = .int .i64 ((sumN lens (k - 1) : Nat) : Int) ∧ wr = w) (fun _ i _ => 16 - (intOf i).toNat)
  case atStart => exact ⟨0, by omega, rfl, rfl, rfl⟩
  case round =>
    obtain ⟨k, hk, rfl, rfl, rfl⟩ := hrel
    by_cases hlt : k < 16
    · have hlt' : (k : Int) < 16 := by omega
      have hg := index_ints Tryd.underlying75 L k (.int .i64 (cn lens k : Int)) hlt (by rw [← HL.out]; exact cntL_get lens k hlt)
      obtain ⟨c, HC⟩ : ∃ c, Hid (cn lens k = c) := ⟨_, rfl⟩
      rw [HC.out] at hg
      have h15 : (k : Int) ≤ 15 := by omega
      have h16 : ¬ (15 - (k : Int) < 0) := by omega
      have hsh : wrap64 (15 - (k : Int)) = ((15 - k : Nat) : Int) := by unfold wrap64; omega
      have hsh2 : ¬ (((15 - k : Nat) : Int) < 0) := by omega
      obtain ⟨S, HS⟩ : ∃ S, Hid (sumN lens (k - 1) = S) := ⟨_, rfl⟩
      rw [HS.out]
      have HW : Hid (wrap64 ((S : Int) + wrap64 ((c : Int) * 2 ^ (15 - k))) = ((sumN lens k : Nat) : Int)) := by
        show _ = _
        rw [sum_wrap S c (15 - k) (by rw [← HS.out]; have h1 := sumN_le lens (k - 1); have h2 : (k - 1) * (lens.length * 32768) ≤ 16 * (1000 * 32768) := Nat.mul_le_mul (by omega) (Nat.mul_le_mul_right _ hl); omega) (by rw [← HC.out]; have := cn_le lens k; omega) (by omega), ← sumN_step lens k, HS.out, HC.out]
      go_wp2
      go_roundw
      case rel => exact ⟨k + 1, by omega, by go_num, congrArg (Value.int .i64) HW.out, trivial⟩
      case measure => simp [intOf]; omega
    · have hk16 : k = 16 := by omega
      subst hk16
      go_wp2
      go_ret
      refine ⟨?_, rfl⟩
      have : ((sumN lens 15 : Int) == 32768) = decide (full lens) := by unfold full; by_cases hh : sumN lens 15 = 32768 <;> simp [hh]; omega
      rw [this]; rfl
theorem lone_walk (h : CodeK mb w cb o lens) (hl : lens.length ≤ 1000) :
    Calls Tryd.prog 52 #[.pointer (some ⟨cb, o, none⟩)] w fun e w' => e = .returned (.bool (decide (loneP lens))) ∧ w' = w := by
  obtain ⟨g, cap, l, ag, c16, hs, _⟩ := h.syms
  have c1 : w.cell? ⟨cb, o + 1, none⟩ = some (.int .i64 (cnt lens 1 : Int)) := h.cnts 1 (by omega)
  have hlen := hs.1
  have hll : l.length ≤ 1000 := by rw [hlen]; exact Nat.le_trans (off_le _ _) hl
  have hc1 := cnt_le lens 1
  obtain ⟨T, HT⟩ : ∃ T, Hid (l.length = T) := ⟨_, rfl⟩
  obtain ⟨C, HC⟩ : ∃ C, Hid (cnt lens 1 = C) := ⟨_, rfl⟩
  have HP : Hid (loneP lens ↔ (T = 0 ∨ (T = 1 ∧ C = 1))) := by unfold Hid loneP; rw [← hlen, HT.out, HC.out]
  rw [HT.out] at c16
  rw [HC.out] at c1
  clear hs ag hlen
  by_cases h0 : T = 0
  · have e0 : ((T : Int) == 0) = true := by simp [h0]
    have hd : decide (loneP lens) = true := decide_eq_true (HP.out.2 (.inl h0))
    rw [hd]
    go_enter Tryd.func52, Tryd.ntmps52
    go_wp2
    go_ret
    exact ⟨rfl, rfl⟩
  · have e0 : ((T : Int) == 0) = false := by rw [beq_eq_false_iff_ne]; omega
    by_cases h1 : T = 1
    · have e1 : ((T : Int) == 1) = true := by simp [h1]
      by_cases hc : C = 1
      · have ec : ((C : Int) == 1) = true := by simp [hc]
        have hd : decide (loneP lens) = true := decide_eq_true (HP.out.2 (.inr ⟨h1, hc⟩))
        rw [hd]
        go_enter Tryd.func52, Tryd.ntmps52
        go_wp2
        go_ret
        exact ⟨rfl, rfl⟩
      · have ec : ((C : Int) == 1) = false := by rw [beq_eq_false_iff_ne]; omega
        have hd : decide (loneP lens) = false := decide_eq_false (fun hh => by rcases HP.out.1 hh with h2 | h2 <;> omega)
        rw [hd]
        go_enter Tryd.func52, Tryd.ntmps52
        go_wp2
        go_ret
        exact ⟨rfl, rfl⟩
    · have e1 : ((T : Int) == 1) = false := by rw [beq_eq_false_iff_ne]; omega
      have hd : decide (loneP lens) = false := decide_eq_false (fun hh => by rcases HP.out.1 hh with h2 | h2 <;> omega)
      rw [hd]
      go_enter Tryd.func52, Tryd.ntmps52
      go_wp2
      go_ret
      exact ⟨rfl, rfl⟩
end
end Go.Proofs.YtjilhneefbakhaaDoor.Inf
