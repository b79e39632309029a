/- digest.hexadecimal: eight words as digits. -/
import Derived.Test.YtpboclnfjpofjaaDoorShaPad
namespace Go.Proofs.YtpboclnfjpofjaaDoor.Sha
open Go.RowKit

def digsB : ByteArray := ⟨#[48, 49, 50, 51, 52, 53, 54, 55, 56, 57, 97, 98, 99, 100, 101, 102]⟩
theorem index_digs (k : IntKind) (d : Nat) (hd : d < 16) (w : World) : (Instr.index 9 (.string ⟨#[48, 49, 50, 51, 52, 53, 54, 55, 56, 57, 97, 98, 99, 100, 101, 102]⟩) (.int k (d : Int))).run Tryd.prog w = .ok (u8v (digs.getD d 0)) w := by
  rw [run_index_string w 9 _ k (d : Int) Tryd.underlying9, dif_pos ⟨by omega, by show (d : Int) < ((16 : Nat) : Int); omega⟩]
  have : ∀ e : Fin 16, ((⟨#[48, 49, 50, 51, 52, 53, 54, 55, 56, 57, 97, 98, 99, 100, 101, 102]⟩ : ByteArray)[e.1]'(e.2)) = digs.getD e.1 0 := by decide
  have h := this ⟨d, hd⟩
  simp only [Int.toNat_natCast]
  rw [u8v, ← h]
theorem hexW_take (x j : Nat) (hj : j < 8) : (hexW x).take (j + 1) = (hexW x).take j ++ [digs.getD (x / 2 ^ (28 - 4 * j) % 16) 0] := by
  match j, hj with
  | 0, _ => rfl
  | 1, _ => rfl
  | 2, _ => rfl
  | 3, _ => rfl
  | 4, _ => rfl
  | 5, _ => rfl
  | 6, _ => rfl
  | 7, _ => rfl
/-- The digits of the first k words. -/
def hexK (s : S8) (k : Nat) : List UInt8 := ((s.list.take k).map hexW).flatten
theorem hexK_succ (s : S8) (k : Nat) (hk : k < 8) : hexK s (k + 1) = hexK s k ++ hexW (s.list.getD k 0) := by
  have h : s.list.take (k + 1) = s.list.take k ++ [s.list.getD k 0] := by
    match k, hk with
    | 0, _ => rfl
    | 1, _ => rfl
    | 2, _ => rfl
    | 3, _ => rfl
    | 4, _ => rfl
    | 5, _ => rfl
    | 6, _ => rfl
    | 7, _ => rfl
  rw [hexK, h, List.map_append, List.flatten_append]
  simp [hexK]
theorem hexW_len (x : Nat) : (hexW x).length = 8 := rfl
theorem hexK_len (s : S8) (k : Nat) (hk : k ≤ 8) : (hexK s k).length = 8 * k := by
  induction k with
  | zero => rfl
  | succ k ih => rw [hexK_succ s k (by omega), List.length_append, ih (by omega), hexW_len]; omega
theorem and15 (x : Nat) (hx : x < 4294967296) (n : Nat) : bits .and .u32 ((x : Int) / 2 ^ n) 15 = ((x / 2 ^ n % 16 : Nat) : Int) := by
  have e : (x : Int) / 2 ^ n = ((x / 2 ^ n : Nat) : Int) := by simp
  have e2 : (15 : Int) = ((15 : Nat) : Int) := rfl
  rw [e, e2, u32_and_nat _ _ (div_lt _ hx) (by decide)]
  exact congrArg _ (Nat.and_two_pow_sub_one_eq_mod _ 4)
set_option maxRecDepth 100000 in
set_option maxHeartbeats 4000000 in
theorem hexadecimal_walk (s : S8) (w : World) (HS : Hid s.Ok) :
    Calls Tryd.prog 10 #[s8v s] w fun e w' => e = .returned (.string ⟨(hex8 s).toArray⟩) ∧ Below w.heap.size w w' := by
  obtain ⟨i0, hi, hz0, hz1, hz2⟩ := info_parts u8Info
  unfold s8v
  go_enter Tryd.func10, Tryd.ntmps10
  go_wp2
  go_loopw [3, 8] (fun v i wr => ∃ (k : Nat) (acc : List UInt8), k ≤ 8 ∧ i = .int .i64 k ∧ OwnL u8v wr w.heap.size v acc ∧ Hid (acc = hexK s k) ∧ Below w.heap.size w wr) (fun _ i _ => 8 - (intOf i).toNat)
  case atStart => exact ⟨0, [], by omega, rfl, Own.nil _ _, rfl, (below_one w _)⟩
  case round =>
    obtain ⟨k, acc, hk, rfl, ho, HA, hB⟩ := hrel
    by_cases hlt : k < 8
    · have hc : (#[Value.int .u32 (s.a : Int), Value.int .u32 (s.b : Int), Value.int .u32 (s.c : Int), Value.int .u32 (s.d : Int), Value.int .u32 (s.e : Int), Value.int .u32 (s.f : Int), Value.int .u32 (s.g : Int), Value.int .u32 (s.h : Int)] : Array Value)[k]? = some (.int .u32 ((s.list.getD k 0 : Nat) : Int)) := by
        match k, hlt with
        | 0, _ => rfl
        | 1, _ => rfl
        | 2, _ => rfl
        | 3, _ => rfl
        | 4, _ => rfl
        | 5, _ => rfl
        | 6, _ => rfl
        | 7, _ => rfl
      obtain ⟨x, HXk⟩ : ∃ x, Hid (s.list.getD k 0 = x) := ⟨_, rfl⟩
      have HXl : Hid (x < 4294967296) := by
        show _ < _
        rw [← HXk.out]
        match k, hlt with
        | 0, _ => exact HS.out.a
        | 1, _ => exact HS.out.b
        | 2, _ => exact HS.out.c
        | 3, _ => exact HS.out.d
        | 4, _ => exact HS.out.e
        | 5, _ => exact HS.out.f
        | 6, _ => exact HS.out.g
        | 7, _ => exact HS.out.h
      rw [HXk.out] at hc
      have hix : ∀ wx, (Instr.index 29 (.agg #[Value.int .u32 (s.a : Int), Value.int .u32 (s.b : Int), Value.int .u32 (s.c : Int), Value.int .u32 (s.d : Int), Value.int .u32 (s.e : Int), Value.int .u32 (s.f : Int), Value.int .u32 (s.g : Int), Value.int .u32 (s.h : Int)]) (.int .i64 (k : Int))).run Tryd.prog wx = .ok (.int .u32 (x : Int)) wx := fun wx => index_u32 _ 8 Tryd.underlying29 _ k _ hlt hc wx
      clear hc
      have hk8 : (k : Int) < 8 := by omega
      have hk8d : decide ((k : Int) < 8) = true := decide_eq_true hk8
      go_wp2
      go_loopw [3, 6] (fun v i wr => ∃ (j : Nat) (a2 : List UInt8), j ≤ 8 ∧ i = .int .i64 (28 - 4 * (j : Int)) ∧ OwnL u8v wr w.heap.size v a2 ∧ Hid (a2 = acc ++ (hexW x).take j) ∧ Below w.heap.size w wr) (fun _ i _ => ((intOf i) + 4).toNat)
      case atStart => exact ⟨0, acc, by omega, rfl, ho, by show _ = _; simp, hB⟩
      case round =>
        clear ho hB
        obtain ⟨j, a2, hj, rfl, ho, HA2, hB⟩ := hrel
        by_cases hlt8 : j < 8
        · have h1 : (0 : Int) ≤ 28 - 4 * (j : Int) := by omega
          have h2 : 28 - 4 * (j : Int) ≤ 32 := by omega
          have hz := hB.size
          obtain ⟨d, HD⟩ : ∃ d, Hid (d = x / 2 ^ (28 - 4 * j) % 16) := ⟨_, rfl⟩
          have hd : bits .and .u32 ((x : Int) / 2 ^ (28 - 4 * j)) 15 = (d : Int) := by rw [and15 x HXl.out, HD.out]
          have HD16 : Hid (d < 16) := by show _ < _; rw [HD.out]; exact Nat.mod_lt _ (by decide)
          obtain ⟨c, HC⟩ : ∃ c, Hid (digs.getD d 0 = c) := ⟨_, rfl⟩
          have hdx : ∀ wx, (Instr.index 9 (.string ⟨#[48, 49, 50, 51, 52, 53, 54, 55, 56, 57, 97, 98, 99, 100, 101, 102]⟩) (.int .u32 (d : Int))).run Tryd.prog wx = .ok (.int .u8 (c.toNat : Int)) wx := fun wx => by rw [← HC.out]; exact index_digs .u32 d HD16.out wx
          obtain ⟨T, HT⟩ : ∃ T, Hid (a2.length = T) := ⟨_, rfl⟩
          have HTl : Hid (T ≤ 100) := by
            show _ ≤ _
            rw [← HT.out, HA2.out, List.length_append, HA.out, hexK_len s k (by omega)]
            have : ((hexW x).take j).length ≤ 8 := by rw [List.length_take, hexW_len]; omega
            omega
          go_wp2_with (at_builtin; refine wpList_append_one u8v u8v_one rfl _ _ 24 rfl w.heap.size 5 i0 (.int .u8 0) 1 Tryd.underlying24 hi hz0 hz1 hz2 rfl _ a2 T HT.out c rfl (ho.step (below_one _ _)) wr.heap.size rfl (by rw [World.cell?_alloc_at _ _ _ _ rfl]; rfl) (by have := HTl.out; omega) (by decide) (by simp; omega) ?_)
          intro g' cap' w1 ho1 hb1
          have hB1 : Below w.heap.size w w1 := (hB.alloc hz _).trans hb1
          clear hb1 ho hB
          go_wp2
          go_roundw
          case rel => exact ⟨j + 1, _, by omega, by go_num, ho1, by show _ = _; rw [HA2.out, hexW_take x j hlt8, ← HD.out, HC.out, List.append_assoc], hB1⟩
          case measure => simp [intOf]; omega
        · have hj8 : ¬ (0 : Int) ≤ 28 - 4 * (j : Int) := by omega
          go_wp2
          go_roundw
          case rel =>
            refine ⟨k + 1, _, by omega, by go_num, ho, ?_, hB⟩
            show _ = _
            rw [HA2.out, HA.out, hexK_succ s k hlt, HXk.out, show j = 8 by omega]; rfl
          case measure => simp [intOf]; omega
    · have HR : Hid (acc = hex8 s) := by show _ = _; rw [HA.out, show k = 8 by omega]; rfl
      have hcv := Own.string ho (by rw [HA.out, hexK_len s k hk]; omega)
      go_wp2
      go_ret
      exact ⟨by rw [HR.out]; rfl, hB⟩
end Go.Proofs.YtpboclnfjpofjaaDoor.Sha
