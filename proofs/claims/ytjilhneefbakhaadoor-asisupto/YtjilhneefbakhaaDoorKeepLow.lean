/- satchelkeep's low, upTo, pick: a number as bytes, at most so many bytes of a text, which of some things. -/
import Derived.Test.YtjilhneefbakhaaDoorShaOwn
namespace Go.Proofs.YtjilhneefbakhaaDoor.Keep
open Go.RowKit Go.Proofs.YtjilhneefbakhaaDoor.Sha

/-- A number as n bytes, the lowest first. -/
def lowL (v : Nat) : Nat → List UInt8
  | 0 => []
  | n + 1 => UInt8.ofNat (v % 256) :: lowL (v / 256) n
theorem lowL_len (v n : Nat) : (lowL v n).length = n := by
  induction n generalizing v with
  | zero => rfl
  | succ n ih => simp [lowL, ih]
theorem lowL_snoc (v n : Nat) : lowL v (n + 1) = lowL v n ++ [UInt8.ofNat (v / 256 ^ n % 256)] := by
  induction n generalizing v with
  | zero => simp [lowL]
  | succ n ih =>
    rw [lowL, ih (v / 256), lowL, List.cons_append, Nat.div_div_eq_div_mul, Nat.pow_succ, Nat.mul_comm (256 ^ n) 256]
theorem and255 (x : Nat) (hx : x < 9223372036854775808) : bits .and .i64 (x : Int) 255 = ((x % 256 : Nat) : Int) := by
  have e : (BitVec.ofInt 64 (x : Int)).toNat = x := by rw [BitVec.ofInt_natCast, BitVec.toNat_ofNat]; exact Nat.mod_eq_of_lt (by omega)
  have e1 : (BitVec.ofInt 64 (255 : Int)).toNat = 255 := by decide
  have ea : x &&& 255 = x % 256 := Nat.and_two_pow_sub_one_eq_mod x 8
  show IntKind.i64.wrap ((BitVec.ofInt 64 (x : Int) &&& BitVec.ofInt 64 (255 : Int)).toNat : Int) = _
  rw [BitVec.toNat_and, e, e1, ea]
  have h2 : x % 256 < 256 := Nat.mod_lt _ (by decide)
  generalize x % 256 = y at *
  have ey : ((y : Int) % 2 ^ 64) = (y : Int) := by omega
  simp only [IntKind.wrap, IntKind.bits, IntKind.signed, ey]
  rw [if_neg]
  simp only [Bool.true_and, decide_eq_true_eq]
  omega
set_option maxRecDepth 100000 in
set_option maxHeartbeats 1000000 in
theorem low_walk (v n : Nat) (w : World) (hv : v < 9223372036854775808) (hn : 0 < n) (hn2 : n ≤ 100) :
    Calls Tryd.prog 17 #[.int .i64 (v : Int), .int .i64 (n : Int)] w fun e w' => e = .returned (.string ⟨(lowL v n).toArray⟩) ∧ Below w.heap.size w w' := by
  obtain ⟨i0, hi, hz0, hz1, hz2⟩ := info_parts u8Info
  go_enter Tryd.func17, Tryd.ntmps17
  go_wp2
  go_loopw [0, 5, 6] (fun x o i wr => ∃ (k y : Nat) (acc : List UInt8), k ≤ n ∧ i = .int .i64 k ∧ x = .int .i64 (y : Int) ∧ OwnL u8v wr w.heap.size o acc ∧ Hid (acc = lowL v k) ∧ Hid (acc.length = k) ∧ Hid (y = v / 256 ^ k) ∧ Below w.heap.size w wr) (fun _ _ i _ => n - (intOf i).toNat)
  case atStart => exact ⟨0, v, [], by omega, rfl, rfl, Own.nil _ _, rfl, rfl, by show _ = _; simp, Below.refl _ _⟩
  case round =>
    obtain ⟨k, y, acc, hk, rfl, rfl, ho, HA, HAl, HY, hB⟩ := hrel
    have hz := hB.size
    by_cases hlt : k < n
    · have hlt' : (k : Int) < (n : Int) := by omega
      have hyl : y < 9223372036854775808 := by rw [HY.out]; exact Nat.lt_of_le_of_lt (Nat.div_le_self _ _) hv
      obtain ⟨c, HC⟩ : ∃ c, Hid (c = UInt8.ofNat (y % 256)) := ⟨_, rfl⟩
      obtain ⟨z, HZ⟩ : ∃ z, Hid (y % 256 = z) := ⟨_, rfl⟩
      have hz256 : z < 256 := by rw [← HZ.out]; exact Nat.mod_lt _ (by decide)
      have hb : bits .and .i64 (y : Int) 255 = (z : Int) := by rw [and255 y hyl, HZ.out]
      have HV : Hid (Value.int .u8 (z : Int) = u8v c) := by
        show _ = _
        rw [HC.out, HZ.out, u8v, UInt8.toNat_ofNat', Nat.mod_eq_of_lt hz256]
      go_wp2_with (at_builtin; refine wpList_append_one u8v u8v_one rfl _ _ 43 rfl w.heap.size 5 i0 (.int .u8 0) 1 Tryd.underlying43 hi hz0 hz1 hz2 rfl _ acc k HAl.out c rfl (ho.step (below_one _ _)) wr.heap.size rfl (by rw [World.cell?_alloc_at _ _ _ _ rfl, ← HV.out]; rfl) (by omega) (by decide) (by simp; omega) ?_)
      intro g' cap' w1 ho1 hb1
      have hB1 : Below w.heap.size w w1 := (hB.alloc hz _).trans hb1
      clear hb1 ho hB
      go_wp2
      go_roundw
      case rel => exact ⟨k + 1, y / 256, _, by omega, by go_num, by simp, ho1, by show _ = _; rw [HA.out, lowL_snoc, HC.out, HY.out], by show _ = _; rw [List.length_append, HAl.out]; rfl, by show _ = _; rw [HY.out, Nat.div_div_eq_div_mul, Nat.pow_succ], hB1⟩
      case measure => simp [intOf]; omega
    · have HR : Hid (acc = lowL v n) := by show _ = _; rw [HA.out, show k = n by omega]
      have hcv := Own.string ho (by rw [HAl.out]; omega)
      go_wp2
      go_ret
      exact ⟨by rw [HR.out]; rfl, hB⟩
theorem upTo_walk (s : ByteArray) (n : Nat) (w : World) :
    Calls Tryd.prog 8 #[.string s, .int .i64 (n : Int)] w fun e w' => e = .returned (.string (s.extract 0 (min n s.size))) ∧ w' = w := by
  by_cases h : n < s.size
  · have h' : (n : Int) < (s.size : Int) := by omega
    have e : min n s.size = n := by omega
    rw [e]
    go_enter Tryd.func8, Tryd.ntmps8
    go_wp2
    go_ret
    exact ⟨rfl, rfl⟩
  · have h' : ¬ (n : Int) < (s.size : Int) := by omega
    have e : s.extract 0 (min n s.size) = s := by
      rw [show min n s.size = s.size by omega]; simp
    rw [e]
    go_enter Tryd.func8, Tryd.ntmps8
    go_wp2
    go_ret
    exact ⟨rfl, rfl⟩
/-- pick, of things that there are: some number below n. -/
theorem pick_walk (c : Int) (n : Nat) (w : World) (hc : -9223372036854775808 ≤ c) (hc2 : c ≤ 9223372036854775807) (hn : 0 < n) (hn2 : n ≤ 9223372036854775807) :
    Calls Tryd.prog 18 #[.int .i64 c, .int .i64 (n : Int)] w fun e w' => (∃ k : Nat, k < n ∧ e = .returned (.int .i64 (k : Int))) ∧ w' = w := by
  have hn0 : ((n : Int) == 0) = false := by simp; omega
  by_cases h : c < 0
  · obtain ⟨m, hm⟩ : ∃ m : Nat, c + 1 = -(m : Int) := ⟨(-(c + 1)).toNat, by omega⟩
    have HV : Hid (-((c + 1).tmod (n : Int)) = ((m % n : Nat) : Int)) := by
      show _ = _
      rw [hm, Int.neg_tmod, Int.neg_neg, Int.tmod_eq_emod_of_nonneg (Int.natCast_nonneg _)]
      rfl
    clear hm
    go_enter Tryd.func18, Tryd.ntmps18
    go_wp2
    go_ret
    exact ⟨⟨m % n, Nat.mod_lt _ hn, by rw [← HV.out]; rfl⟩, rfl⟩
  · obtain ⟨m, rfl⟩ : ∃ m : Nat, c = (m : Int) := ⟨c.toNat, by omega⟩
    go_enter Tryd.func18, Tryd.ntmps18
    go_wp2
    go_ret
    exact ⟨⟨m % n, Nat.mod_lt _ hn, rfl⟩, rfl⟩
end Go.Proofs.YtjilhneefbakhaaDoor.Keep
