/- The document puts a byte; how long and how far a copy goes. -/
import Derived.Test.YtjilhneefbakhaaDoorRefV
namespace Go.Proofs.YtjilhneefbakhaaDoor.Inf
open Go.RowKit Go.Proofs.YtjilhneefbakhaaDoor.Sha

section
variable {tb base : Nat} {s : ByteArray} {pos : Nat} {out : List UInt8} {most : Nat} {bad : Bool} {w : World}
/-- What the document's put leaves. -/
def PutR (tb base : Nat) (s : ByteArray) (pos : Nat) (out : List UInt8) (most : Nat) (bad : Bool) (c : UInt8) (w : World) (e : Ending) (w' : World) : Prop :=
  ∃ (r : Bool) (o : List UInt8), e = .returned (.bool r) ∧ TA tb base s pos o most bad w' ∧ Kept tb base w w' ∧ o.length ≤ most ∧ (out.length = most → r = false ∧ o = out) ∧ (out.length ≠ most → r = true ∧ o = out ++ [c])
set_option maxRecDepth 100000 in
set_option maxHeartbeats 4000000 in
theorem putR_walk (c : UInt8) (h : TA tb base s pos out most bad w) (hm : out.length ≤ most) (hm2 : most ≤ 8000) :
    Calls Tryd.prog 23 #[.pointer (some ⟨tb, 0, none⟩), .int .u8 (c.toNat : Int)] w fun e w' => PutR tb base s pos out most bad c w e w' := by
  obtain ⟨i0, hi, hz0, hz1, hz2⟩ := info_parts u8Info
  obtain ⟨v, c3, ho⟩ := h.c3
  obtain ⟨ao, cap, hv⟩ := own_slice ho
  subst hv
  have c4 := h.c4
  have HH : Hid (TA tb base s pos out most bad w) := h
  obtain ⟨L, HL⟩ : ∃ L, Hid (out.length = L) := ⟨_, rfl⟩
  rw [HL.out] at c3 ho hm
  by_cases he : L = most
  · have heq : (most : Int) ≤ (L : Int) := by omega
    have HE : Hid (out.length = most) := by show _ = _; rw [HL.out]; exact he
    clear h he
    go_enter Tryd.func23, Tryd.ntmps23
    go_wp2_with fail
    go_quiet (fail)
    have h1 := HH.out.drew nq
    have k1 : Kept tb base w (w.drewN nq) := Kept.drew nq
    clear c3 c4 ho
    generalize w.drewN nq = w1 at *
    go_wp2
    exact bodyPost_ret (results_tmp rfl _ _ _) rfl ⟨false, out, rfl, h1, k1, by rw [HE.out]; exact Nat.le_refl _, fun _ => ⟨rfl, rfl⟩, fun hn => absurd HE.out hn⟩
  · have heq : ¬ (most : Int) ≤ (L : Int) := by omega
    have HE : Hid (out.length ≠ most) := by show _ ≠ _; rw [HL.out]; exact he
    clear h he
    go_enter Tryd.func23, Tryd.ntmps23
    go_wp2_with fail
    go_quiet (fail)
    have h1 := HH.out.drew nq
    have k1 : Kept tb base w (w.drewN nq) := Kept.drew nq
    have c31 : (w.drewN nq).cell? ⟨tb, 3, none⟩ = some (.slice ao L cap) := c3
    have ho1 : OwnL u8v (w.drewN nq) base (.slice ao L cap) out := ho
    clear c3 c4 ho
    generalize w.drewN nq = w1 at *
    have hbl := h1.bl
    go_wp2_with (at_builtin; refine wpList_append_one2 u8v u8v_one rfl _ _ 43 rfl base 5 i0 (.int .u8 0) 1 Tryd.underlying43 hi hz0 hz1 hz2 rfl _ out L HL.out c rfl (ho1.step (below_one _ _)) w1.heap.size rfl (by rw [World.cell?_alloc_at _ _ _ _ rfl]; rfl) (by omega) (by decide) (by simp; omega) ?_)
    intro g' cap' w2 ho2 hb2 hapt
    have hb : Below base w1 w2 := ((below_one w1 _).mono hbl).trans hb2
    have hM := h1.below hb _ _ ho2
    have c3' : w2.cell? ⟨tb, 3, none⟩ = some (.slice ao L cap) := by rw [hb.cell (p := ⟨tb, 3, none⟩) h1.lt]; exact c31
    have f3 : w2.frozen? ⟨tb, 3, none⟩ = false := by rw [hb.frozen (p := ⟨tb, 3, none⟩) h1.lt]; exact h1.fro 3
    have HK : Kept tb base w (w2.setCell ⟨tb, 3, none⟩ (.slice (some ⟨g', 0, none⟩) (L + 1) cap')) := k1.trans (kept_put hb h1.lt c31 rfl (apt_alloc hapt))
    have HLm : Hid ((out ++ [c]).length ≤ most) := by show _ ≤ _; have := HL.out; have := HE.out; simp; omega
    clear hb hb2 ho2 h1 k1 c31 ho1 hbl hapt
    go_wp2
    exact bodyPost_ret (results_tmp rfl _ _ _) rfl ⟨true, out ++ [c], rfl, hM, HK, HLm.out, fun he => absurd he HE.out, fun _ => ⟨rfl, rfl⟩⟩
end
/-- How many bits more a code has. -/
def exB (free each c : Nat) : Nat := if free ≤ c then (c - free) / each + 1 else 0
/-- From which number on a code goes. -/
def exN (free each fro : Nat) : Nat → Nat
  | 0 => fro
  | c + 1 => exN free each fro c + 2 ^ exB free each c
theorem exB_le (free each c : Nat) (hc : c ≤ 30) : exB free each c ≤ 31 := by
  unfold exB
  split
  · have := Nat.div_le_self (c - free) each; omega
  · omega
theorem exN_le (free each fro : Nat) (hf : fro ≤ 8) : ∀ c, c ≤ 31 → exN free each fro c ≤ 8 + c * 2147483648
  | 0, _ => by simp [exN]; exact hf
  | c + 1, hc => by
    have h1 := exN_le free each fro hf c (by omega)
    have h2 := exB_le free each c (by omega)
    have h3 : 2 ^ exB free each c ≤ 2 ^ 31 := Nat.pow_le_pow_right (by decide) h2
    rw [exN, Nat.add_mul]; omega
theorem add_shl (n b : Nat) (hn : n ≤ 100000000000) (hb : b ≤ 31) : wrap64 ((n : Int) + wrap64 (2 ^ b)) = ((n + 2 ^ b : Nat) : Int) := by
  have e1 : (2 : Int) ^ b = ((2 ^ b : Nat) : Int) := by simp
  have h3 : 2 ^ b ≤ 2 ^ 31 := Nat.pow_le_pow_right (by decide) hb
  rw [e1]
  generalize 2 ^ b = d at *
  unfold wrap64; omega
section
variable {w : World}
set_option maxRecDepth 100000 in
set_option maxHeartbeats 4000000 in
theorem extra_walk (code free each fro : Nat) (hc : code ≤ 30) (hf : free ≤ 8) (he1 : 1 ≤ each) (he2 : each ≤ 8) (hfr : fro ≤ 8) :
    Calls Tryd.prog 55 #[.int .i64 (code : Int), .int .i64 (free : Int), .int .i64 (each : Int), .int .i64 (fro : Int)] w fun e w' => e = .returned (.tuple #[.int .i64 ((exN free each fro code : Nat) : Int), .int .i64 ((exB free each code : Nat) : Int)]) ∧ w' = w := by
  have hez : ((each : Int) == 0) = false := by rw [beq_eq_false_iff_ne]; omega
  have hez' : ¬ (each : Int) = 0 := by omega
  go_enter Tryd.func55, Tryd.ntmps55
  go_wp2
  go_loopw [10, 11, 12] (fun n i _ wr => ∃ k : Nat, k ≤ code ∧ i = .int .i64 (k : Int) ∧ n = .int .i64 ((exN free each fro k : Nat) : Int) ∧ wr = w) (fun _ i _ _ => code - (intOf i).toNat)
  case atStart => exact ⟨0, by omega, rfl, rfl, rfl⟩
  case round =>
    obtain ⟨k, hk, rfl, rfl, rfl⟩ := hrel
    have hn := exN_le free each fro hfr k (by omega)
    have hn' : exN free each fro k ≤ 100000000000 := by have : k * 2147483648 ≤ 31 * 2147483648 := Nat.mul_le_mul_right _ (by omega); omega
    by_cases hlt : k < code
    · have hlt' : (k : Int) < (code : Int) := by omega
      have hb := exB_le free each k (by omega)
      obtain ⟨n, HN⟩ : ∃ n, Hid (exN free each fro k = n) := ⟨_, rfl⟩
      by_cases hfk : free ≤ k
      · have hfk' : (free : Int) ≤ (k : Int) := by omega
        obtain ⟨d, HD⟩ : ∃ d, Hid (k - free = d) := ⟨_, rfl⟩
        have hd : (k : Int) - (free : Int) = (d : Int) := by have := HD.out; omega
        obtain ⟨q, HQ⟩ : ∃ q, Hid (d / each = q) := ⟨_, rfl⟩
        have hq31 : q ≤ 30 := by rw [← HQ.out]; have := Nat.div_le_self d each; have := HD.out; omega
        have hq : (d : Int).tdiv (each : Int) = (q : Int) := by rw [← HQ.out]; rfl
        have hq2 : (d : Int) / (each : Int) = (q : Int) := by rw [← HQ.out]; simp
        have HB : Hid (exB free each k = q + 1) := by unfold exB; rw [if_pos hfk, HD.out, HQ.out]; rfl
        have HW : Hid (wrap64 ((n : Int) + wrap64 (2 ^ (q + 1))) = ((n + 2 ^ (q + 1) : Nat) : Int)) := add_shl n (q + 1) (by rw [← HN.out]; exact hn') (by omega)
        have HX : Hid (exN free each fro (k + 1) = n + 2 ^ (q + 1)) := by rw [exN, HN.out, HB.out]; rfl
        rw [HN.out]
        clear hn hn'
        go_wp2
        go_roundw
        case rel => exact ⟨k + 1, by omega, by go_num, by rw [HX.out]; exact congrArg (Value.int .i64) HW.out, by first | rfl | trivial⟩
        case measure => simp [intOf]; omega
      · have hfk' : ¬ (free : Int) ≤ (k : Int) := by omega
        have HX : Hid (exN free each fro (k + 1) = n + 1) := by rw [exN, HN.out]; unfold exB; rw [if_neg hfk]; rfl
        rw [HN.out]
        rw [HN.out] at hn'
        clear hn
        go_wp2
        go_roundw
        case rel => exact ⟨k + 1, by omega, by go_num, by rw [HX.out]; congr 1, by first | rfl | trivial⟩
        case measure => simp [intOf]; omega
    · have hlt' : ¬ (k : Int) < (code : Int) := by omega
      obtain rfl : k = code := by omega
      by_cases hfk : free ≤ k
      · have hfk' : (free : Int) ≤ (k : Int) := by omega
        obtain ⟨d, HD⟩ : ∃ d, Hid (k - free = d) := ⟨_, rfl⟩
        have hd : (k : Int) - (free : Int) = (d : Int) := by have := HD.out; omega
        obtain ⟨q, HQ⟩ : ∃ q, Hid (d / each = q) := ⟨_, rfl⟩
        have hq31 : q ≤ 30 := by rw [← HQ.out]; have := Nat.div_le_self d each; have := HD.out; omega
        have hq : (d : Int).tdiv (each : Int) = (q : Int) := by rw [← HQ.out]; rfl
        have hq2 : (d : Int) / (each : Int) = (q : Int) := by rw [← HQ.out]; simp
        have HB : Hid (exB free each k = q + 1) := by unfold exB; rw [if_pos hfk, HD.out, HQ.out]; rfl
        go_wp2
        go_ret2
        exact ⟨by rw [HB.out]; rfl, rfl⟩
      · have hfk' : ¬ (free : Int) ≤ (k : Int) := by omega
        have HB : Hid (exB free each k = 0) := by unfold exB; rw [if_neg hfk]; rfl
        go_wp2
        go_ret2
        exact ⟨by rw [HB.out]; rfl, rfl⟩
end
end Go.Proofs.YtjilhneefbakhaaDoor.Inf
