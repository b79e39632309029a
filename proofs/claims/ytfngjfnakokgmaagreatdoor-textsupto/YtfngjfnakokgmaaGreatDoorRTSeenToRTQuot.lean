/- The document's own seen; texts that grow by a byte. -/
import Derived.Test.YtfngjfnakokgmaaGreatDoorTextIToRTSkip
import Derived.Test.YtfngjfnakokgmaaGreatDoorTextNumToTextQuot
import Derived.Laws.IdiomStrings
import Derived.BigQuiet
import Derived.Deep.QuietTactic
import Derived.OwnWalk
namespace Go.Proofs.YtfngjfnakokgmaaGreatDoor.Txt
open Go.RowKit Go.Proofs.YtfngjfnakokgmaaGreatDoor.Sha
theorem ba_ext' {a b : ByteArray} (h : a.data.toList = b.data.toList) : a = b := ByteArray.ext (Array.toList_inj.1 h)
theorem add_byte (l : Bytes) (c : UInt8) (hl : l.length + 1 ≤ 9223372036854775807) (wx : World) : (Op.stringOp .add ⟨l.toArray⟩ ⟨#[c]⟩).run Tryz.prog wx = .ok (.string ⟨(l ++ [c]).toArray⟩) wx := by
  have hla : (ByteArray.mk l.toArray).size = l.length := by show l.toArray.size = _; simp
  have hlb : (ByteArray.mk #[c]).size = 1 := rfl
  rw [run_string_add_sum wx _ _ (by omega)]
  congr 2
theorem conv_byte (wx : World) (g : Nat) (c : UInt8) (hc : wx.cell? ⟨g, 0, none⟩ = some (.int .u8 c.toNat)) (cap : Nat) : (convert 102 9 (.slice (some ⟨g, 0, none⟩) 1 cap)).run Tryz.prog wx = .ok (.string ⟨#[c]⟩) wx :=
  run_convert_bytes_back wx 102 9 5 ⟨g, 0, none⟩ cap [c] Tryz.underlying102 Tryz.underlying5 Tryz.underlying9 (fun j hj => by
    have : j = 0 := by simp at hj; exact hj
    subst this
    exact hc)
def inText (c : UInt8) : Bool := decide (32 ≤ c.toNat) && decide (c.toNat ≤ 126)
theorem rseen_walk (c : UInt8) (w : World) : Calls Tryz.prog 59 #[.int .u8 (c.toNat : Int)] w fun e w' => e = .returned (.bool (inText c)) ∧ w' = w := by
  by_cases h1 : 32 ≤ c.toNat
  · have h1' : (32 : Int) ≤ (c.toNat : Int) := by omega
    by_cases h2 : c.toNat ≤ 126
    · have h2' : (c.toNat : Int) ≤ 126 := by omega
      have HI : Hid (inText c = true) := by show _ = _; simp [inText, h1, h2]
      clear h1 h2
      generalize (c.toNat : Int) = n at *
      rw [HI.out]
      go_enter Tryz.func59, Tryz.ntmps59
      go_wp2
      go_ret
      exact ⟨rfl, rfl⟩
    · have h2' : ¬ (c.toNat : Int) ≤ 126 := by omega
      have HI : Hid (inText c = false) := by show _ = _; simp [inText, h2]
      clear h1 h2
      generalize (c.toNat : Int) = n at *
      rw [HI.out]
      go_enter Tryz.func59, Tryz.ntmps59
      go_wp2
      go_ret
      exact ⟨rfl, rfl⟩
  · have h1' : ¬ (32 : Int) ≤ (c.toNat : Int) := by omega
    have HI : Hid (inText c = false) := by show _ = _; simp [inText, h1]
    clear h1
    generalize (c.toNat : Int) = n at *
    rw [HI.out]
    go_enter Tryz.func59, Tryz.ntmps59
    go_wp2
    go_ret
    exact ⟨rfl, rfl⟩
theorem plain_iff {c : UInt8} (h34 : c ≠ 34) (h92 : c ≠ 92) : isPlain c = inText c := by
  have e1 : (c != 34) = true := bne_iff_ne.2 h34
  have e2 : (c != 92) = true := bne_iff_ne.2 h92
  unfold isPlain inText
  rw [e1, e2, Bool.and_true, Bool.and_true]
theorem plain_out {c : UInt8} (h : inText c = false) : isPlain c = false := by
  unfold isPlain inText at *
  rw [h]; rfl
/-- How the document's quoted ends. -/
def RQ (s : ByteArray) (a : Nat) (e : Ending) : Prop :=
  (∃ (t r : Bytes) (a' : Nat), quoted (s.data.toList.drop a) = some (t, r) ∧ e = .returned (.tuple #[.string ⟨t.toArray⟩, .int .i64 (a' : Int), .bool true]) ∧ a' ≤ s.size ∧ s.data.toList.drop a' = r ∧ t.length ≤ s.size) ∨
  (quoted (s.data.toList.drop a) = none ∧ e = .returned (.tuple #[.string ⟨#[]⟩, .int .i64 (a : Int), .bool false]))
end Go.Proofs.YtfngjfnakokgmaaGreatDoor.Txt
/- The document's own quoted. -/
namespace Go.Proofs.YtfngjfnakokgmaaGreatDoor.Txt
open Go.RowKit Go.Proofs.YtfngjfnakokgmaaGreatDoor.Sha
theorem quoted_at {s : ByteArray} {a : Nat} (ha : a < s.size) (hc : s[a] = 34) : quoted (s.data.toList.drop a) = chars (s.data.toList.drop (a + 1)) := by
  rw [drop_cons s a ha, quoted, if_pos hc]
theorem quoted_not {s : ByteArray} {a : Nat} (ha : a < s.size) (hc : s[a] ≠ 34) : quoted (s.data.toList.drop a) = none := by
  rw [drop_cons s a ha, quoted, if_neg hc]
theorem u8_test {c d : UInt8} : ((c.toNat : Int) == (d.toNat : Int)) = (c == d) := by
  by_cases h : c = d
  · subst h; simp
  · have : (c.toNat : Int) ≠ (d.toNat : Int) := fun e => h (UInt8.toNat_inj.1 (by omega))
    rw [beq_eq_false_iff_ne.2 this, beq_eq_false_iff_ne.2 h]
theorem u8_yes {c : UInt8} (d : UInt8) (n : Int) (hn : (d.toNat : Int) = n) (h : c = d) : ((c.toNat : Int) == n) = true := by rw [← hn, u8_test, h]; simp
theorem u8_no {c : UInt8} (d : UInt8) (n : Int) (hn : (d.toNat : Int) = n) (h : c ≠ d) : ((c.toNat : Int) == n) = false := by rw [← hn, u8_test]; simpa using h
theorem u8_nyes {c : UInt8} (d : UInt8) (n : Int) (hn : (d.toNat : Int) = n) (h : c ≠ d) : ((c.toNat : Int) != n) = true := by rw [bne, u8_no d n hn h]; rfl
theorem u8_nno {c : UInt8} (d : UInt8) (n : Int) (hn : (d.toNat : Int) = n) (h : c = d) : ((c.toNat : Int) != n) = false := by rw [bne, u8_yes d n hn h]; rfl
set_option maxHeartbeats 1000000 in
theorem rquoted_walk (s : ByteArray) (a : Nat) (w : World) (ha : a ≤ s.size) (hs : s.size ≤ 140737488355327) :
    Calls Tryz.prog 46 #[.string s, .int .i64 (a : Int)] w fun e w' => RQ s a e ∧ Below w.heap.size w w' := by
  by_cases hlt : a < s.size
  · have hge : ¬ (s.size : Int) ≤ (a : Int) := by omega
    by_cases h34 : s[a] = 34
    · have t34 := u8_nno 34 34 rfl h34
      have HQ : Hid (quoted (s.data.toList.drop a) = chars (s.data.toList.drop (a + 1))) := quoted_at hlt h34
      clear h34
      go_enter Tryz.func46, Tryz.ntmps46
      go_wp2
      go_loopw [7, 8] (fun o v wr => ∃ (k : Nat) (acc : Bytes), o = .string ⟨acc.toArray⟩ ∧ v = .int .i64 (k : Int) ∧ k ≤ s.size ∧ Hid (Read (s.data.toList.drop (a + 1)) acc (s.data.toList.drop k)) ∧ acc.length ≤ k ∧ Below w.heap.size w wr) (fun _ v _ => s.size - (intOf v).toNat)
      case atStart => exact ⟨a + 1, [], rfl, by go_num, by omega, Read.start _, Nat.zero_le _, Below.refl _ _⟩
      case round =>
        obtain ⟨k, acc, rfl, rfl, hk, HI, hal, hB⟩ := hrel
        have hzr := hB.size
        by_cases hkl : k < s.size
        · have hkl' : (k : Int) < (s.size : Int) := by omega
          have HD : Hid (s.data.toList.drop k = s[k] :: s.data.toList.drop (k + 1)) := drop_cons s k hkl
          go_wp2_with fail
          refine (rseen_walk s[k] _).mono ?_
          rintro e w' ⟨rfl, rfl⟩
          by_cases c34 : s[k] = 34
          · have t1 := u8_yes 34 34 rfl c34
            have HF : Hid (RQ s a (.returned (.tuple #[.string ⟨acc.toArray⟩, .int .i64 ((k : Int) + 1), .bool true]))) := by
              refine Or.inl ⟨acc, s.data.toList.drop (k + 1), k + 1, ?_, by simp, hkl, rfl, by omega⟩
              have := HI.out
              unfold Read at this
              rw [HQ.out, this, HD.out, chars_cons, if_pos c34]
              simp
            clear c34
            go_wp2
            go_ret3
            exact ⟨HF.out, hB⟩
          · have t1 := u8_no 34 34 rfl c34
            cases hin : inText s[k] with
            | false =>
              have HF : Hid (RQ s a (.returned (.tuple #[.string ⟨#[]⟩, .int .i64 (a : Int), .bool false]))) := by
                refine Or.inr ⟨?_, rfl⟩
                have := HI.out
                unfold Read at this
                rw [HQ.out, this, HD.out, chars_cons, if_neg c34]
                have h92 : s[k] ≠ 92 := by intro e; rw [e] at hin; revert hin; decide
                rw [if_neg h92, plain_out hin, if_neg (by decide)]
                rfl
              clear c34 hin
              go_wp2
              go_ret3
              exact ⟨HF.out, hB⟩
            | true =>
              by_cases c92 : s[k] = 92
              · have t2 := u8_yes 92 92 rfl c92
                by_cases hk1 : k + 1 < s.size
                · have hk1' : (k : Int) + 1 < (s.size : Int) := by omega
                  have hk1g : ¬ (s.size : Int) ≤ (k : Int) + 1 := by omega
                  have HD2 : Hid (s.data.toList.drop k = 92 :: s[k + 1] :: s.data.toList.drop (k + 2)) := by show _ = _; rw [HD.out, drop_cons s (k + 1) hk1, c92]
                  have hix : ((k : Int) + 1).toNat = k + 1 := by omega
                  clear c34 c92 hin
                  by_cases d34 : s[k + 1] = 34
                  · have d0 := d34
                    have q34 := u8_yes 34 34 rfl d34
                    have hv : (s[k + 1].toNat : Int) = 34 := by rw [d34]; rfl
                    clear d34
                    have HR : Hid (Read (s.data.toList.drop (a + 1)) (acc ++ [34]) (s.data.toList.drop (k + 2))) := by
                      have hm : meant s[k + 1] = 34 := by rw [d0]; rfl
                      have := HI.out.esc HD2.out (by rw [hm]; decide)
                      rw [hm] at this
                      exact this
                    have a1 := add_byte acc 34 (by omega)
                    have cv := fun (wx : World) => conv_byte (wx.alloc (.cells #[.int .u8 34] 5)) wx.heap.size 34 (by simp)
                    clear d0
                    go_wp2
                    go_roundw
                    case rel => exact ⟨k + 2, _, rfl, by go_num, by omega, HR, by simp; omega, hB.alloc hzr _⟩
                    case measure => simp [intOf]; omega
                  · have q34 := u8_no 34 34 rfl d34
                    by_cases d92 : s[k + 1] = 92
                    · have d0 := d92
                      have q92 := u8_yes 92 92 rfl d92
                      have hv : (s[k + 1].toNat : Int) = 92 := by rw [d92]; rfl
                      clear d92
                      have HR : Hid (Read (s.data.toList.drop (a + 1)) (acc ++ [92]) (s.data.toList.drop (k + 2))) := by
                        have hm : meant s[k + 1] = 92 := by rw [d0]; rfl
                        have := HI.out.esc HD2.out (by rw [hm]; decide)
                        rw [hm] at this
                        exact this
                      have a1 := add_byte acc 92 (by omega)
                      have cv := fun (wx : World) => conv_byte (wx.alloc (.cells #[.int .u8 92] 5)) wx.heap.size 92 (by simp)
                      clear d0
                      go_wp2
                      go_roundw
                      case rel => exact ⟨k + 2, _, rfl, by go_num, by omega, HR, by simp; omega, hB.alloc hzr _⟩
                      case measure => simp [intOf]; omega
                    · have q92 := u8_no 92 92 rfl d92
                      by_cases d47 : s[k + 1] = 47
                      · have d0 := d47
                        have q47 := u8_yes 47 47 rfl d47
                        have hv : (s[k + 1].toNat : Int) = 47 := by rw [d47]; rfl
                        clear d47
                        have HR : Hid (Read (s.data.toList.drop (a + 1)) (acc ++ [47]) (s.data.toList.drop (k + 2))) := by
                          have hm : meant s[k + 1] = 47 := by rw [d0]; rfl
                          have := HI.out.esc HD2.out (by rw [hm]; decide)
                          rw [hm] at this
                          exact this
                        have a1 := add_byte acc 47 (by omega)
                        have cv := fun (wx : World) => conv_byte (wx.alloc (.cells #[.int .u8 47] 5)) wx.heap.size 47 (by simp)
                        clear d0
                        go_wp2
                        go_roundw
                        case rel => exact ⟨k + 2, _, rfl, by go_num, by omega, HR, by simp; omega, hB.alloc hzr _⟩
                        case measure => simp [intOf]; omega
                      · have q47 := u8_no 47 47 rfl d47
                        by_cases d110 : s[k + 1] = 110
                        · have d0 := d110
                          have q110 := u8_yes 110 110 rfl d110
                          clear d110
                          have HR : Hid (Read (s.data.toList.drop (a + 1)) (acc ++ [10]) (s.data.toList.drop (k + 2))) := by
                            have hm : meant s[k + 1] = 10 := by rw [d0]; rfl
                            have := HI.out.esc HD2.out (by rw [hm]; decide)
                            rw [hm] at this
                            exact this
                          have a1 := add_byte acc 10 (by omega)
                          have cv := fun (wx : World) => conv_byte (wx.alloc (.cells #[.int .u8 10] 5)) wx.heap.size 10 (by simp)
                          clear d0
                          go_wp2
                          go_roundw
                          case rel => exact ⟨k + 2, _, rfl, by go_num, by omega, HR, by simp; omega, hB.alloc hzr _⟩
                          case measure => simp [intOf]; omega
                        · have q110 := u8_no 110 110 rfl d110
                          by_cases d116 : s[k + 1] = 116
                          · have d0 := d116
                            have q116 := u8_yes 116 116 rfl d116
                            clear d116
                            have HR : Hid (Read (s.data.toList.drop (a + 1)) (acc ++ [9]) (s.data.toList.drop (k + 2))) := by
                              have hm : meant s[k + 1] = 9 := by rw [d0]; rfl
                              have := HI.out.esc HD2.out (by rw [hm]; decide)
                              rw [hm] at this
                              exact this
                            have a1 := add_byte acc 9 (by omega)
                            have cv := fun (wx : World) => conv_byte (wx.alloc (.cells #[.int .u8 9] 5)) wx.heap.size 9 (by simp)
                            clear d0
                            go_wp2
                            go_roundw
                            case rel => exact ⟨k + 2, _, rfl, by go_num, by omega, HR, by simp; omega, hB.alloc hzr _⟩
                            case measure => simp [intOf]; omega
                          · have q116 := u8_no 116 116 rfl d116
                            have HF : Hid (RQ s a (.returned (.tuple #[.string ⟨#[]⟩, .int .i64 (a : Int), .bool false]))) := by
                              refine Or.inr ⟨?_, rfl⟩
                              rw [HQ.out]
                              refine HI.out.bad HD2.out ?_
                              unfold meant
                              simp [d34, d92, d47, d110, d116]
                            clear d34 d92 d47 d110 d116
                            go_wp2
                            go_ret3
                            exact ⟨HF.out, hB⟩
                · have hk1g : (s.size : Int) ≤ (k : Int) + 1 := by omega
                  have HF : Hid (RQ s a (.returned (.tuple #[.string ⟨#[]⟩, .int .i64 (a : Int), .bool false]))) := by
                    refine Or.inr ⟨?_, rfl⟩
                    rw [HQ.out]
                    refine HI.out.cut ?_
                    rw [HD.out, drop_end s (k + 1) (by omega), c92]
                  clear c34 c92 hin
                  go_wp2
                  go_ret3
                  exact ⟨HF.out, hB⟩
              · have t2 := u8_no 92 92 rfl c92
                have HR : Hid (Read (s.data.toList.drop (a + 1)) (acc ++ [s[k]]) (s.data.toList.drop (k + 1))) := HI.out.plain HD.out (by rw [plain_iff c34 c92]; exact hin)
                have a1 := add_byte acc s[k] (by omega)
                have cv := fun (wx : World) => conv_byte (wx.alloc (.cells #[.int .u8 (s[k].toNat : Int)] 5)) wx.heap.size s[k] (by simp)
                clear c34 c92 hin
                go_wp2
                go_roundw
                case rel => exact ⟨k + 1, _, rfl, by go_num, by omega, HR, by simp; omega, hB.alloc hzr _⟩
                case measure => simp [intOf]; omega
        · have hkl' : ¬ (k : Int) < (s.size : Int) := by omega
          have HF : Hid (RQ s a (.returned (.tuple #[.string ⟨#[]⟩, .int .i64 (a : Int), .bool false]))) := by
            refine Or.inr ⟨?_, rfl⟩
            have := HI.out
            unfold Read at this
            rw [HQ.out, this, drop_end s k (by omega)]
            rfl
          go_wp2
          go_ret3
          exact ⟨HF.out, hB⟩
    · have t34 := u8_nyes 34 34 rfl h34
      have HF : Hid (RQ s a (.returned (.tuple #[.string ⟨#[]⟩, .int .i64 (a : Int), .bool false]))) := Or.inr ⟨quoted_not hlt h34, rfl⟩
      clear h34
      go_enter Tryz.func46, Tryz.ntmps46
      go_wp2
      go_ret3
      exact ⟨HF.out, Below.refl _ _⟩
  · have hge : (s.size : Int) ≤ (a : Int) := by omega
    have HF : Hid (RQ s a (.returned (.tuple #[.string ⟨#[]⟩, .int .i64 (a : Int), .bool false]))) := Or.inr ⟨by rw [drop_end s a (by omega)]; rfl, rfl⟩
    go_enter Tryz.func46, Tryz.ntmps46
    go_wp2
    go_ret3
    exact ⟨HF.out, Below.refl _ _⟩
end Go.Proofs.YtfngjfnakokgmaaGreatDoor.Txt
