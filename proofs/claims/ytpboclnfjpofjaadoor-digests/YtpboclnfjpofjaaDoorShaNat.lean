/- How the program's and the document's reckoning of words comes to plain numbers. -/
import Derived.Test.YtpboclnfjpofjaaDoorShaBase
import Derived.Test.YtpboclnfjpofjaaDoorShaMath
namespace Go.Proofs.YtpboclnfjpofjaaDoor.Sha
open Go.RowKit

theorem ofInt_i64 (a : Nat) (ha : a < 9223372036854775808) : (BitVec.ofInt 64 (a : Int)).toNat = a := by
  rw [BitVec.ofInt_natCast, BitVec.toNat_ofNat]; exact Nat.mod_eq_of_lt (by omega)
theorem wrap_i64_nat (a : Nat) (ha : a < 9223372036854775808) : IntKind.i64.wrap (a : Int) = (a : Int) := by
  have e : ((a : Int) % 2 ^ 64) = (a : Int) := by omega
  simp only [IntKind.wrap, IntKind.bits, IntKind.signed, e]
  rw [if_neg]
  simp only [Bool.true_and, decide_eq_true_eq]
  omega
theorem i64_and_nat (a b : Nat) (ha : a < 9223372036854775808) (hb : b < 9223372036854775808) : bits .and .i64 (a : Int) (b : Int) = ((a &&& b : Nat) : Int) := by
  have hx : a &&& b < 2 ^ 63 := Nat.and_lt_two_pow _ (by omega)
  show IntKind.i64.wrap ((BitVec.ofInt 64 (a : Int) &&& BitVec.ofInt 64 (b : Int)).toNat : Int) = _
  rw [BitVec.toNat_and, ofInt_i64 a ha, ofInt_i64 b hb, wrap_i64_nat _ (by omega)]
theorem i64_or_nat (a b : Nat) (ha : a < 9223372036854775808) (hb : b < 9223372036854775808) : bits .or .i64 (a : Int) (b : Int) = ((a ||| b : Nat) : Int) := by
  have hx : a ||| b < 2 ^ 63 := Nat.or_lt_two_pow (by omega) (by omega)
  show IntKind.i64.wrap ((BitVec.ofInt 64 (a : Int) ||| BitVec.ofInt 64 (b : Int)).toNat : Int) = _
  rw [BitVec.toNat_or, ofInt_i64 a ha, ofInt_i64 b hb, wrap_i64_nat _ (by omega)]
theorem i64_xor_nat (a b : Nat) (ha : a < 9223372036854775808) (hb : b < 9223372036854775808) : bits .xor .i64 (a : Int) (b : Int) = ((a ^^^ b : Nat) : Int) := by
  have hx : a ^^^ b < 2 ^ 63 := Nat.xor_lt_two_pow (by omega) (by omega)
  show IntKind.i64.wrap ((BitVec.ofInt 64 (a : Int) ^^^ BitVec.ofInt 64 (b : Int)).toNat : Int) = _
  rw [BitVec.toNat_xor, ofInt_i64 a ha, ofInt_i64 b hb, wrap_i64_nat _ (by omega)]
theorem wrap64_nat (a : Nat) (ha : a < 9223372036854775808) : wrap64 (a : Int) = (a : Int) := by unfold wrap64; omega
theorem pow_cast (n : Nat) : (2 : Int) ^ n = ((2 ^ n : Nat) : Int) := by simp
theorem rotl_nat (x n : Nat) (hx : x < 4294967296) (h1 : 1 ≤ n) (h2 : n ≤ 31) : rotl (x : Int) (32 - n) = ((ror x n : Nat) : Int) := by
  have e : 32 - (32 - n) = n := by omega
  rw [rotl, e, pow_cast, pow_cast]
  have a1 : (x : Int) * ((2 ^ (32 - n) : Nat) : Int) % 4294967296 = ((x * 2 ^ (32 - n) % 4294967296 : Nat) : Int) := by simp
  have a2 : (x : Int) / ((2 ^ n : Nat) : Int) = ((x / 2 ^ n : Nat) : Int) := by simp
  rw [a1, a2, u32_or_nat _ _ (Nat.mod_lt _ (by decide)) (div_lt _ hx), Nat.or_comm]
  rfl
theorem rotr_nat (x n : Nat) (hx : x < 4294967296) (h1 : 1 ≤ n) (h2 : n ≤ 31) : rotr (x : Int) (n : Int) = ((ror x n : Nat) : Int) := by
  have e1 : (n : Int).toNat = n := by omega
  have e2 : (32 - (n : Int)).toNat = 32 - n := by omega
  have hp : 2 ^ (32 - n) ≤ 2147483648 := by
    have : (2 : Nat) ^ (32 - n) ≤ 2 ^ 31 := Nat.pow_le_pow_right (by decide) (by omega)
    omega
  have hm : x * 2 ^ (32 - n) < 9223372036854775808 := by
    have h3 : x * 2 ^ (32 - n) ≤ x * 2147483648 := Nat.mul_le_mul_left _ hp
    omega
  rw [rotr, e1, e2, pow_cast, pow_cast]
  have a1 : (x : Int) * ((2 ^ (32 - n) : Nat) : Int) = ((x * 2 ^ (32 - n) : Nat) : Int) := by simp
  have a2 : (x : Int) / ((2 ^ n : Nat) : Int) = ((x / 2 ^ n : Nat) : Int) := by simp
  have a3 : (x * 2 ^ (32 - n)) &&& 4294967295 = x * 2 ^ (32 - n) % 4294967296 := Nat.and_two_pow_sub_one_eq_mod _ 32
  have a4 := i64_and_nat (x * 2 ^ (32 - n)) 4294967295 hm (by decide)
  rw [a1, a2, wrap64_nat _ hm]
  have a5 : ((4294967295 : Nat) : Int) = (4294967295 : Int) := rfl
  rw [a5] at a4
  rw [a4, a3, i64_or_nat _ _ (by have := div_lt (2 ^ n) hx; omega) (by have := Nat.mod_lt (x * 2 ^ (32 - n)) (show 0 < 4294967296 by decide); omega)]
  rfl
/-- bits.RotateLeft32 at a number below 0 turns to the right. -/
theorem rol (x n : Nat) (k : Int) (w : World) (hx : x < 4294967296) (h1 : 1 ≤ n) (h2 : n ≤ 31) (hk : bits .and .u64 (IntKind.u64.wrap k) 31 = ((32 - n : Nat) : Int)) :
    Calls Tryd.prog 14 #[.int .u32 (x : Int), .int .i64 k] w fun e w' => e = .returned (.int .u32 ((ror x n : Nat) : Int)) ∧ w' = w := by
  refine (rotl_walk x k (32 - n) w (by omega) hk).mono ?_
  rintro e w' ⟨rfl, rfl⟩
  exact ⟨by rw [rotl_nat x n hx h1 h2], rfl⟩
theorem turnN (x n : Nat) (w : World) (hx : x < 4294967296) (h1 : 1 ≤ n) (h2 : n ≤ 31) :
    Calls Tryd.prog 12 #[.int .i64 (x : Int), .int .i64 (n : Int)] w fun e w' => e = .returned (.int .i64 ((ror x n : Nat) : Int)) ∧ ∃ m, w' = w.drewN m := by
  refine (turn_walk x n w (by omega) (by omega)).mono ?_
  rintro e w' ⟨rfl, m, rfl⟩
  exact ⟨by rw [rotr_nat x n hx h1 h2], m, rfl⟩
theorem or_add (a i b m : Nat) (hm : m = 2 ^ i) (hb : b < m) : a * m ||| b = a * m + b := by
  subst hm
  rw [← Nat.shiftLeft_eq]
  exact (Nat.shiftLeft_add_eq_or_of_lt hb a).symm
/-- Four bytes as a word. -/
theorem word4 (a b c d : UInt8) : bits .or .u32 (bits .or .u32 (bits .or .u32 ((a.toNat : Int) % 4294967296 * 16777216 % 4294967296) ((b.toNat : Int) % 4294967296 * 65536 % 4294967296)) ((c.toNat : Int) % 4294967296 * 256 % 4294967296)) ((d.toNat : Int) % 4294967296)
    = ((((a.toNat * 256 + b.toNat) * 256 + c.toNat) * 256 + d.toNat : Nat) : Int) := by
  have h1 := a.toNat_lt; have h2 := b.toNat_lt; have h3 := c.toNat_lt; have h4 := d.toNat_lt
  have e1 : (a.toNat : Int) % 4294967296 * 16777216 % 4294967296 = ((a.toNat * 16777216 : Nat) : Int) := by omega
  have e2 : (b.toNat : Int) % 4294967296 * 65536 % 4294967296 = ((b.toNat * 65536 : Nat) : Int) := by omega
  have e3 : (c.toNat : Int) % 4294967296 * 256 % 4294967296 = ((c.toNat * 256 : Nat) : Int) := by omega
  have e4 : (d.toNat : Int) % 4294967296 = ((d.toNat : Nat) : Int) := by omega
  have o1 : (a.toNat * 16777216) ||| (b.toNat * 65536) = a.toNat * 16777216 + b.toNat * 65536 := or_add _ 24 _ _ (by decide) (by omega)
  have o2 : (a.toNat * 16777216 + b.toNat * 65536) ||| (c.toNat * 256) = a.toNat * 16777216 + b.toNat * 65536 + c.toNat * 256 := by
    have h := or_add (a.toNat * 256 + b.toNat) 16 (c.toNat * 256) 65536 (by decide) (by omega)
    have e : (a.toNat * 256 + b.toNat) * 65536 = a.toNat * 16777216 + b.toNat * 65536 := by omega
    rw [e] at h; exact h
  have o3 : (a.toNat * 16777216 + b.toNat * 65536 + c.toNat * 256) ||| d.toNat = a.toNat * 16777216 + b.toNat * 65536 + c.toNat * 256 + d.toNat := by
    have h := or_add ((a.toNat * 256 + b.toNat) * 256 + c.toNat) 8 d.toNat 256 (by decide) (by omega)
    have e : ((a.toNat * 256 + b.toNat) * 256 + c.toNat) * 256 = a.toNat * 16777216 + b.toNat * 65536 + c.toNat * 256 := by omega
    rw [e] at h; exact h
  rw [e1, e2, e3, e4, u32_or_nat _ _ (by omega) (by omega), o1, u32_or_nat _ _ (by omega) (by omega), o2, u32_or_nat _ _ (by omega) (by omega), o3]
  omega
theorem sg0_u32 {x : Nat} (h : x < 4294967296) : bits .xor .u32 (bits .xor .u32 ((ror x 7 : Nat) : Int) ((ror x 18 : Nat) : Int)) ((x : Int) / 8) = ((sg0 x : Nat) : Int) := by
  rw [u32_xor_nat _ _ (ror_lt _ h) (ror_lt _ h), show (x : Int) / 8 = ((x / 8 : Nat) : Int) by simp, u32_xor_nat _ _ (xor_lt (ror_lt _ h) (ror_lt _ h)) (div_lt _ h)]; rfl
theorem sg1_u32 {x : Nat} (h : x < 4294967296) : bits .xor .u32 (bits .xor .u32 ((ror x 17 : Nat) : Int) ((ror x 19 : Nat) : Int)) ((x : Int) / 1024) = ((sg1 x : Nat) : Int) := by
  rw [u32_xor_nat _ _ (ror_lt _ h) (ror_lt _ h), show (x : Int) / 1024 = ((x / 1024 : Nat) : Int) by simp, u32_xor_nat _ _ (xor_lt (ror_lt _ h) (ror_lt _ h)) (div_lt _ h)]; rfl
theorem sg0_i64 {x : Nat} (h : x < 4294967296) : bits .xor .i64 (bits .xor .i64 ((ror x 7 : Nat) : Int) ((ror x 18 : Nat) : Int)) ((x : Int) / 8) = ((sg0 x : Nat) : Int) := by
  have a := ror_lt 7 h; have b := ror_lt 18 h; have c := xor_lt a b
  rw [i64_xor_nat _ _ (by omega) (by omega), show (x : Int) / 8 = ((x / 8 : Nat) : Int) by simp, i64_xor_nat _ _ (by omega) (by omega)]; rfl
theorem sg1_i64 {x : Nat} (h : x < 4294967296) : bits .xor .i64 (bits .xor .i64 ((ror x 17 : Nat) : Int) ((ror x 19 : Nat) : Int)) ((x : Int) / 1024) = ((sg1 x : Nat) : Int) := by
  have a := ror_lt 17 h; have b := ror_lt 19 h; have c := xor_lt a b
  rw [i64_xor_nat _ _ (by omega) (by omega), show (x : Int) / 1024 = ((x / 1024 : Nat) : Int) by simp, i64_xor_nat _ _ (by omega) (by omega)]; rfl
theorem bg1_u32 {x : Nat} (h : x < 4294967296) : bits .xor .u32 (bits .xor .u32 ((ror x 6 : Nat) : Int) ((ror x 11 : Nat) : Int)) ((ror x 25 : Nat) : Int) = ((bg1 x : Nat) : Int) := by
  rw [u32_xor_nat _ _ (ror_lt _ h) (ror_lt _ h), u32_xor_nat _ _ (xor_lt (ror_lt _ h) (ror_lt _ h)) (ror_lt _ h)]; rfl
theorem bg0_u32 {x : Nat} (h : x < 4294967296) : bits .xor .u32 (bits .xor .u32 ((ror x 2 : Nat) : Int) ((ror x 13 : Nat) : Int)) ((ror x 22 : Nat) : Int) = ((bg0 x : Nat) : Int) := by
  rw [u32_xor_nat _ _ (ror_lt _ h) (ror_lt _ h), u32_xor_nat _ _ (xor_lt (ror_lt _ h) (ror_lt _ h)) (ror_lt _ h)]; rfl
theorem bg1_i64 {x : Nat} (h : x < 4294967296) : bits .xor .i64 (bits .xor .i64 ((ror x 6 : Nat) : Int) ((ror x 11 : Nat) : Int)) ((ror x 25 : Nat) : Int) = ((bg1 x : Nat) : Int) := by
  have a := ror_lt 6 h; have b := ror_lt 11 h; have c := xor_lt a b; have d := ror_lt 25 h
  rw [i64_xor_nat _ _ (by omega) (by omega), i64_xor_nat _ _ (by omega) (by omega)]; rfl
theorem bg0_i64 {x : Nat} (h : x < 4294967296) : bits .xor .i64 (bits .xor .i64 ((ror x 2 : Nat) : Int) ((ror x 13 : Nat) : Int)) ((ror x 22 : Nat) : Int) = ((bg0 x : Nat) : Int) := by
  have a := ror_lt 2 h; have b := ror_lt 13 h; have c := xor_lt a b; have d := ror_lt 22 h
  rw [i64_xor_nat _ _ (by omega) (by omega), i64_xor_nat _ _ (by omega) (by omega)]; rfl
theorem max_xor {e : Nat} (h : e < 4294967296) : 4294967295 ^^^ e = 4294967295 - e := by
  have h1 := BitVec.toNat_not (x := BitVec.ofNat 32 e)
  rw [BitVec.not_def, BitVec.toNat_xor, BitVec.toNat_allOnes, BitVec.toNat_ofNat, Nat.mod_eq_of_lt h] at h1
  exact h1
theorem ch_u32 {e f g : Nat} (h : e < 4294967296) (hf : f < 4294967296) (hg : g < 4294967296) : bits .xor .u32 (bits .and .u32 (e : Int) (f : Int)) (bits .and .u32 (bits .xor .u32 IntKind.u32.max (e : Int)) (g : Int)) = ((chN e f g : Nat) : Int) := by
  have hm : IntKind.u32.max = ((4294967295 : Nat) : Int) := rfl
  rw [u32_and_nat _ _ h hf, hm, u32_xor_nat _ _ (by decide) h, max_xor h, u32_and_nat _ _ (by omega) hg, u32_xor_nat _ _ (and_lt h) (and_lt (by omega))]; rfl
theorem ch_i64 {e f g : Nat} (h : e < 4294967296) (hf : f < 4294967296) (hg : g < 4294967296) : bits .xor .i64 (bits .and .i64 (e : Int) (f : Int)) (bits .and .i64 (4294967295 - (e : Int)) (g : Int)) = ((chN e f g : Nat) : Int) := by
  have a : e &&& f < 4294967296 := and_lt h
  have b : (4294967295 - e) &&& g < 4294967296 := and_lt (by omega)
  rw [i64_and_nat _ _ (by omega) (by omega), show (4294967295 : Int) - (e : Int) = ((4294967295 - e : Nat) : Int) by omega, i64_and_nat _ _ (by omega) (by omega), i64_xor_nat _ _ (by omega) (by omega)]; rfl
theorem maj_u32 {a b c : Nat} (ha : a < 4294967296) (hb : b < 4294967296) (hc : c < 4294967296) : bits .xor .u32 (bits .xor .u32 (bits .and .u32 (a : Int) (b : Int)) (bits .and .u32 (a : Int) (c : Int))) (bits .and .u32 (b : Int) (c : Int)) = ((majN a b c : Nat) : Int) := by
  rw [u32_and_nat _ _ ha hb, u32_and_nat _ _ ha hc, u32_and_nat _ _ hb hc, u32_xor_nat _ _ (and_lt ha) (and_lt ha), u32_xor_nat _ _ (xor_lt (and_lt ha) (and_lt ha)) (and_lt hb)]; rfl
theorem maj_i64 {a b c : Nat} (ha : a < 4294967296) (hb : b < 4294967296) (hc : c < 4294967296) : bits .xor .i64 (bits .xor .i64 (bits .and .i64 (a : Int) (b : Int)) (bits .and .i64 (a : Int) (c : Int))) (bits .and .i64 (b : Int) (c : Int)) = ((majN a b c : Nat) : Int) := by
  have x : a &&& b < 4294967296 := and_lt ha
  have y : a &&& c < 4294967296 := and_lt ha
  have z : b &&& c < 4294967296 := and_lt hb
  have u := xor_lt x y
  rw [i64_and_nat _ _ (by omega) (by omega), i64_and_nat _ _ (by omega) (by omega), i64_and_nat _ _ (by omega) (by omega), i64_xor_nat _ _ (by omega) (by omega), i64_xor_nat _ _ (by omega) (by omega)]; rfl
end Go.Proofs.YtpboclnfjpofjaaDoor.Sha
