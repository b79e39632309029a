/- digest.pad: a text's last bytes up to whole blocks. -/
import Derived.Test.YtpboclnfjpofjaaDoorShaMix
namespace Go.Proofs.YtpboclnfjpofjaaDoor.Sha
open Go.RowKit

theorem conv_bytes (s : ByteArray) (w : World) : ∃ v0 w0, (convert 9 24 (.string s)).run Tryd.prog w = .ok v0 w0 ∧ OwnL u8v w0 w.heap.size v0 s.data.toList ∧ Below w.heap.size w w0 := by
  have h := run_bytes_of_string (P := Tryd.prog) w 9 24 5 s Tryd.underlying9 Tryd.underlying24 Tryd.underlying5
  exact ⟨_, _, h, Own.bytes w.drew s _ _ (grownCap_ge _ _ _ _), (Below.refl _ w).drew.alloc (Nat.le_refl _) _⟩
theorem lenB_take (n j : Nat) (hj : j < 8) : (lenB n).take (j + 1) = (lenB n).take j ++ [UInt8.ofNat (8 * n / 2 ^ (56 - 8 * j) % 256)] := by
  match j, hj with
  | 0, _ => rfl
  | 1, _ => rfl
  | 2, _ => rfl
  | 3, _ => rfl
  | 4, _ => rfl
  | 5, _ => rfl
  | 6, _ => rfl
  | 7, _ => rfl
theorem u8v_ofNat (x : Nat) (z : Int) (h : z = (x : Int)) (hx : x < 256) : Value.int .u8 z = u8v (UInt8.ofNat x) := by
  rw [u8v, UInt8.toNat_ofNat', Nat.mod_eq_of_lt (by simpa using hx), h]
set_option maxHeartbeats 2000000 in
theorem pad_walk (s : ByteArray) (n : Nat) (w : World) (hs : s.size < 64) (hn : n ≤ 140737488355328) :
    Calls Tryd.prog 9 #[.string s, .int .u64 (n : Int)] w fun e w' => e = .returned (.string ⟨(padT s.data.toList n).toArray⟩) ∧ Below w.heap.size w w' := by
  obtain ⟨i0, hi, hz0, hz1, hz2⟩ := info_parts u8Info
  obtain ⟨v0, w0, hcv, hown, hbel⟩ := conv_bytes s w
  obtain ⟨l, hl⟩ : ∃ l, s.data.toList = l := ⟨_, rfl⟩
  have hll : l.length = s.size := by rw [← hl]; simp
  rw [hl] at hown ⊢
  obtain ⟨M, hM⟩ : ∃ M, s.size = M := ⟨_, rfl⟩
  have HL : Hid (l.length = M) := by rw [← hM]; exact hll
  rw [hM] at hs
  clear hl hll hM
  go_enter Tryd.func9, Tryd.ntmps9
  go_wp2_with (at_builtin; refine wpList_append_one u8v u8v_one rfl _ _ 24 rfl w.heap.size 5 i0 (.int .u8 0) 1 Tryd.underlying24 hi hz0 hz1 hz2 rfl v0 l M HL.out 128 rfl (hown.step (below_one _ _)) w0.heap.size rfl (by simp; rfl) (by omega) (by decide) (by have := hbel.size; simp; omega) ?_)
  intro g cap w1 ho1 hb1
  have hB1 : Below w.heap.size w w1 := (hbel.alloc hbel.size _).trans hb1
  clear hown hbel hcv hb1
  go_wp2
  go_loopw [5] (fun v wr => ∃ (k g cap : Nat) (pre : List UInt8), k ≤ zerosN M ∧ v = .slice (some ⟨g, 0, none⟩) (M + 1 + k) cap ∧ OwnL u8v wr w.heap.size v pre ∧ Hid (pre = l ++ [128] ++ List.replicate k 0) ∧ Hid (pre.length = M + 1 + k) ∧ Below w.heap.size w wr) (fun v _ => match v with | .slice _ n _ => 200 - n | _ => 0)
  case atStart => exact ⟨0, g, cap, _, Nat.zero_le _, rfl, ho1, by show _ = _; simp, by show _ = _; rw [List.length_append, HL.out]; rfl, hB1⟩
  case round =>
    clear ho1 hB1
    obtain ⟨k, g, cap, pre, hk, rfl, ho, HP, HPl, hB⟩ := hrel
    have HZ : Hid (zerosN M = (119 - M % 64) % 64) := rfl
    by_cases hlt : k < zerosN M
    · have hne : (((M : Int) + 1 + (k : Int)) % 64 != 56) = true := by have := HZ.out; simp; omega
      have hz := hB.size
      have HK : Hid (k < 64) := by have := HZ.out; show _ < _; omega
      have HK1 : Hid (k + 1 ≤ zerosN M) := hlt
      clear hlt
      go_wp2_with (at_builtin; refine wpList_append_one u8v u8v_one rfl _ _ 24 rfl w.heap.size 5 i0 (.int .u8 0) 1 Tryd.underlying24 hi hz0 hz1 hz2 rfl _ pre _ HPl.out 0 rfl (ho.step (below_one _ _)) wr.heap.size rfl (by simp; rfl) (by have := HK.out; omega) (by decide) (by simp; omega) ?_)
      intro g' cap' w1 ho1 hb1
      have hB1 : Below w.heap.size w w1 := (hB.alloc hz _).trans hb1
      clear hb1 ho hB
      go_wp2
      go_roundw
      case rel => exact ⟨k + 1, g', cap', _, HK1.out, rfl, ho1, by show _ = _; rw [HP.out, List.replicate_succ', ← List.append_assoc], by show _ = _; rw [List.length_append, HPl.out]; rfl, hB1⟩
      case measure => have := HK.out; show 200 - _ < 200 - _; omega
    · have hne : (((M : Int) + 1 + (k : Int)) % 64 != 56) = false := by have := HZ.out; simp; omega
      have HK : Hid (k = zerosN M) := by show _ = _; omega
      have HK2 : Hid (k < 64) := by have := HZ.out; show _ < _; omega
      go_wp2
      go_loopw [5, 6] (fun v i wr => ∃ (j g cap : Nat) (acc : List UInt8), j ≤ 8 ∧ i = .int .i64 (56 - 8 * (j : Int)) ∧ v = .slice (some ⟨g, 0, none⟩) (M + 1 + k + j) cap ∧ OwnL u8v wr w.heap.size v acc ∧ Hid (acc = pre ++ (lenB n).take j) ∧ Hid (acc.length = M + 1 + k + j) ∧ Below w.heap.size w wr) (fun v _ _ => match v with | .slice _ n _ => 300 - n | _ => 0)
      case atStart => exact ⟨0, g, cap, pre, by omega, rfl, rfl, ho, by show _ = _; simp, HPl.out, hB⟩
      case round =>
        clear ho hB
        obtain ⟨j, g, cap, acc, hj, rfl, rfl, ho, HA, HAl, hB⟩ := hrel
        by_cases hlt8 : j < 8
        · have h1 : (0 : Int) ≤ 56 - 8 * (j : Int) := by omega
          have h2 : 56 - 8 * (j : Int) ≤ 64 := by omega
          have hz := hB.size
          obtain ⟨c, HC⟩ : ∃ c, Hid (c = UInt8.ofNat (8 * n / 2 ^ (56 - 8 * j) % 256)) := ⟨_, rfl⟩
          have HV : Hid (Value.int .u8 ((n : Int) * 8 / 2 ^ (56 - 8 * j) % 256) = u8v c) := by
            show _ = _
            rw [HC.out]
            refine u8v_ofNat _ _ ?_ (Nat.mod_lt _ (by decide))
            simp [Int.mul_comm]
          go_wp2_with (at_builtin; refine wpList_append_one u8v u8v_one rfl _ _ 24 rfl w.heap.size 5 i0 (.int .u8 0) 1 Tryd.underlying24 hi hz0 hz1 hz2 rfl _ acc _ HAl.out c rfl (ho.step (below_one _ _)) wr.heap.size rfl (by rw [World.cell?_alloc_at _ _ _ _ rfl, ← HV.out]; rfl) (by have := HK2.out; omega) (by decide) (by simp; omega) ?_)
          intro g' cap' w1 ho1 hb1
          have hB1 : Below w.heap.size w w1 := (hB.alloc hz _).trans hb1
          clear hb1 ho hB
          go_wp2
          go_roundw
          case rel => exact ⟨j + 1, g', cap', _, by omega, by go_num, rfl, ho1, by show _ = _; rw [HA.out, lenB_take n j hlt8, HC.out, List.append_assoc], by show _ = _; rw [List.length_append, HAl.out]; rfl, hB1⟩
          case measure => have := HK2.out; show 300 - _ < 300 - _; omega
        · have hj8 : ¬ (0 : Int) ≤ 56 - 8 * (j : Int) := by omega
          have HR : Hid (acc = padT l n) := by
            show _ = _
            rw [HA.out, show j = 8 by omega, HP.out, HK.out, padT, HL.out]; rfl
          have hcv := Own.string ho (by rw [HAl.out]; omega)
          go_wp2
          go_ret
          exact ⟨by rw [HR.out]; rfl, hB⟩
end Go.Proofs.YtpboclnfjpofjaaDoor.Sha
