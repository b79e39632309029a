/- names.Escape and satchel.Escape: what they answer of every text of at most 2^40 bytes. -/
import Derived.Test.YtaaocpaeajlpeaaGreatDoorNum
import Derived.Test.YtaaocpaeajlpeaaGreatDoorShelf
import Derived.Test.YtaaocpaeajlpeaaGreatDoorEscMath
import Derived.BigCall
namespace Go.Proofs.YtaaocpaeajlpeaaGreatDoor
open Go.RowKit

theorem take_snoc (s : ByteArray) (k : Nat) (h : k < s.size) : s.data.toList.take (k + 1) = s.data.toList.take k ++ [s[k]] := by
  rw [List.take_succ_eq_append_getElem (by simpa using h)]; rfl
theorem u8_add32 {c : UInt8} (h : capB c = true) (acc : List UInt8) : Lib.byteCells (acc ++ [c + 32]) = Lib.byteCells acc ++ [Value.int .u8 ((c.toNat : Int) + 32)] := by
  rw [Lib.byteCells_append]
  show _ ++ [Value.int .u8 ((c + 32).toNat : Int)] = _
  rw [cap_add h]; rfl
theorem u8_sub32 {c : UInt8} (h : smallB c = true) (acc : List UInt8) : Lib.byteCells (acc ++ [c - 32]) = Lib.byteCells acc ++ [Value.int .u8 ((c.toNat : Int) - 32)] := by
  have h2 := small_sub h
  simp only [smallB, decide_eq_true_eq] at h
  have e : ((c.toNat - 32 : Nat) : Int) = (c.toNat : Int) - 32 := by omega
  rw [Lib.byteCells_append]
  show _ ++ [Value.int .u8 ((c - 32).toNat : Int)] = _
  rw [h2, e]
theorem u8_one (c : UInt8) (acc : List UInt8) : Lib.byteCells (acc ++ [c]) = Lib.byteCells acc ++ [Value.int .u8 (c.toNat : Int)] := by
  rw [Lib.byteCells_append]; rfl
theorem u8_ne {c : UInt8} (h : c ≠ 33) : ((c.toNat : Int) == 33) = false := by
  simp only [beq_eq_false_iff_ne, ne_eq]
  intro e
  exact h (UInt8.toNat_inj.1 (by show c.toNat = 33; omega))
theorem u8_eq {c : UInt8} (h : c = 33) : ((c.toNat : Int) == 33) = true := by subst h; rfl

theorem isCapital_yes (n : Int) (w : World) (h1 : 65 ≤ n) (h2 : n ≤ 90) : Calls Tryz.prog 38 #[.int .u8 n] w fun e w' => e = .returned (.bool true) ∧ w' = w := by
  go_enter Tryz.func38, Tryz.ntmps38
  go_wp2
  go_ret
  exact ⟨rfl, rfl⟩
theorem isCapital_no (n : Int) (w : World) (h : ¬ (65 ≤ n ∧ n ≤ 90)) : Calls Tryz.prog 38 #[.int .u8 n] w fun e w' => e = .returned (.bool false) ∧ w' = w := by
  by_cases h1 : 65 ≤ n
  · have h2 : ¬ n ≤ 90 := fun h2 => h ⟨h1, h2⟩
    clear h
    go_enter Tryz.func38, Tryz.ntmps38
    go_wp2
    go_ret
    exact ⟨rfl, rfl⟩
  · clear h
    go_enter Tryz.func38, Tryz.ntmps38
    go_wp2
    go_ret
    exact ⟨rfl, rfl⟩
theorem isSmall_yes (n : Int) (w : World) (h1 : 97 ≤ n) (h2 : n ≤ 122) : Calls Tryz.prog 41 #[.int .u8 n] w fun e w' => e = .returned (.bool true) ∧ w' = w := by
  go_enter Tryz.func41, Tryz.ntmps41
  go_wp2
  go_ret
  exact ⟨rfl, rfl⟩
theorem isSmall_no (n : Int) (w : World) (h : ¬ (97 ≤ n ∧ n ≤ 122)) : Calls Tryz.prog 41 #[.int .u8 n] w fun e w' => e = .returned (.bool false) ∧ w' = w := by
  by_cases h1 : 97 ≤ n
  · have h2 : ¬ n ≤ 122 := fun h2 => h ⟨h1, h2⟩
    clear h
    go_enter Tryz.func41, Tryz.ntmps41
    go_wp2
    go_ret
    exact ⟨rfl, rfl⟩
  · clear h
    go_enter Tryz.func41, Tryz.ntmps41
    go_wp2
    go_ret
    exact ⟨rfl, rfl⟩

/-- How names.Escape and names.Unescape end, told by what they were to answer ('none': the error ErrName). -/
def EscEnd (a0 : Addr) (r : Option (List UInt8)) (e : Ending) (w' : World) : Prop :=
  match r with
  | some t => e = .returned (.tuple #[.string ⟨t.toArray⟩, .nilIface])
  | none => ∃ b, e = .returned (.tuple #[.string ⟨#[]⟩, .iface 54 (.pointer (some ⟨b, 0, none⟩))]) ∧ w'.cell? ⟨b, 0, none⟩ = some (.iface 142 (.pointer (some a0)))
def escR (l : List UInt8) : Option (List UInt8) := if (33 : UInt8) ∈ l then none else some (esc l)

set_option maxHeartbeats 1000000 in
theorem escape_walk (s : ByteArray) (w : World) (a0 a1 : Addr) (x : Value) (hs : s.size ≤ 1099511627776) (hS : Sents a0 a1 w)
    (hx : w.cell? ⟨3, 0, none⟩ = some (.iface 142 x)) :
    Calls Tryz.prog 22 #[.string s] w fun e w' => EscEnd a0 (escR s.data.toList) e w' ∧ Below w.heap.size w w' := by
  go_enter Tryz.func22, Tryz.ntmps22
  go_wp2
  go_loopw [9] (fun i wr => ∃ k : Nat, k ≤ s.size ∧ i = .int .i64 k ∧ Lib.IsBuilderF 73 5 w.heap.size w.heap.size (Lib.byteCells (esc (s.data.toList.take k))) wr ∧ Below w.heap.size w wr ∧ (33 : UInt8) ∉ s.data.toList.take k) (fun i _ => s.size - (intOf i).toNat)
  case atStart =>
    exact ⟨0, Nat.zero_le _, rfl, Lib.IsBuilderF.of (Lib.fresh_isBuilder 73 5 w), (Below.refl _ w).alloc (Nat.le_refl _) _, by simp⟩
  case round =>
    obtain ⟨k, hk, rfl, hI, hbw, hno⟩ := hrel
    have hsz := hbw.size
    by_cases hlt : k < s.size
    · have HT : Hid (s.data.toList.take (k + 1) = s.data.toList.take k ++ [s[k]]) := take_snoc s k hlt
      have hlen : (Lib.byteCells (esc (s.data.toList.take k))).length ≤ 2 * k := by
        rw [Lib.byteCells_length]; have := esc_length (s.data.toList.take k); simp at this ⊢; omega
      by_cases hb : s[k] = 33
      · have hb' := u8_eq hb
        have HE : Hid (escR s.data.toList = none) := by
          show _ = _
          have hm : (33 : UInt8) ∈ s.data.toList := by
            rw [← hb]; exact List.getElem_mem (l := s.data.toList) (n := k) (by simpa using hlt)
          simp [escR, hm]
        have hn1 := cell_below hbw hS.nam
        have hx1 := cell_below hbw hx
        clear hb hno hlen
        go_wp2
        go_ret2
        refine ⟨?_, hbw.alloc hsz _⟩
        rw [HE.out]
        exact ⟨_, rfl, by simp⟩
      · have hb' := u8_ne hb
        have HNo : Hid ((33 : UInt8) ∉ s.data.toList.take (k + 1)) := by
          show _ ∉ _
          rw [HT.out]; simp only [List.mem_append, List.mem_singleton, not_or]; exact ⟨hno, fun e => hb e.symm⟩
        clear hb
        by_cases hc : capB s[k] = true
        · have hc' := hc
          simp only [capB, decide_eq_true_eq] at hc'
          obtain ⟨hc1, hc2⟩ := hc'
          have HC : Hid (esc (s.data.toList.take (k + 1)) = (esc (s.data.toList.take k) ++ [33]) ++ [s[k] + 32]) := by
            show _ = _
            rw [HT.out, esc_append, esc_cons, escOne_cap hc, esc_nil]; simp
          have HCap : Hid (capB s[k] = true) := hc
          clear hc
          go_wp2_with fail
          refine (isCapital_yes _ _ (by omega) (by omega)).mono ?_
          rintro e w' ⟨rfl, rfl⟩
          go_wp2_with fail
          refine (builder_WriteByte w.heap.size w.heap.size _ 33 _ hI (by omega) hsz).mono ?_
          rintro e W1 ⟨rfl, h1, b1, _⟩
          have hI1 : Lib.IsBuilderF 73 5 w.heap.size w.heap.size (Lib.byteCells (esc (s.data.toList.take k) ++ [33])) W1 := by
            rw [u8_one]; exact Or.inr h1
          have hsz1 := b1.size
          clear h1
          go_wp2_with fail
          refine (builder_WriteByte w.heap.size w.heap.size _ _ _ hI1 (by rw [Lib.byteCells_length] at hlen ⊢; simp; omega) (by omega)).mono ?_
          rintro e W2 ⟨rfl, h2, b2, _⟩
          go_wp2
          go_roundw
          case rel =>
            refine ⟨k + 1, by omega, by go_num, ?_, (hbw.trans b1).trans b2, HNo.out⟩
            rw [HC.out, u8_add32 HCap.out]; exact Or.inr h2
          case measure => simp [intOf]; omega
        · have hc : capB s[k] = false := by simpa using hc
          have hc' := hc
          simp only [capB, decide_eq_false_iff_not] at hc'
          have HC : Hid (esc (s.data.toList.take (k + 1)) = esc (s.data.toList.take k) ++ [s[k]]) := by
            show _ = _
            rw [HT.out, esc_append, esc_cons, escOne_not hc, esc_nil]; simp
          have HNc : Hid (¬ ((65 : Int) ≤ (s[k].toNat : Int) ∧ (s[k].toNat : Int) ≤ 90)) := by
            show ¬ _
            omega
          clear hc hc'
          go_wp2_with fail
          refine (isCapital_no _ _ HNc.out).mono ?_
          rintro e w' ⟨rfl, rfl⟩
          go_wp2_with fail
          refine (builder_WriteByte w.heap.size w.heap.size _ _ _ hI (by omega) hsz).mono ?_
          rintro e W1 ⟨rfl, h1, b1, _⟩
          go_wp2
          go_roundw
          case rel =>
            refine ⟨k + 1, by omega, by go_num, ?_, hbw.trans b1, HNo.out⟩
            rw [HC.out, u8_one]; exact Or.inr h1
          case measure => simp [intOf]; omega
    · have HE : Hid (escR s.data.toList = some (esc (s.data.toList.take k))) := by
        show _ = _
        have ht : s.data.toList.take k = s.data.toList := List.take_of_length_le (by simp; omega)
        rw [ht] at hno ⊢
        simp [escR, hno]
      go_wp2_with (go_at_call 40; refine (builder_String w.heap.size w.heap.size _ _ hI (by omega)).mono ?_; rintro e W1 ⟨rfl, _, b1, _⟩)
      go_ret2
      refine ⟨?_, hbw.trans b1⟩
      rw [HE.out]
      rfl
end Go.Proofs.YtaaocpaeajlpeaaGreatDoor
