/- The document's own seen; texts that grow by a byte. -/
import Derived.Test.YtmfdfopjeinglaaGreatDoorTextIToRTSkip
import Derived.Test.YtmfdfopjeinglaaGreatDoorTextNumToTextQuot
import Derived.Laws.IdiomStrings
import Derived.BigQuiet
import Derived.Deep.QuietTactic
import Derived.OwnWalk
import Derived.Test.YtmfdfopjeinglaaGreatDoorRefCToListSplitToListA
namespace Go.Proofs.YtmfdfopjeinglaaGreatDoor.Txt
open Go.RowKit Go.Proofs.YtmfdfopjeinglaaGreatDoor.Sha
theorem ba_ext' {a b : ByteArray} (h : a.data.toList = b.data.toList) : a = b := ByteArray.ext (Array.toList_inj.1 h)
theorem add_byte (l : Bytes) (c : UInt8) (hl : l.length + 1 ≤ 9223372036854775807) (wx : World) : (Op.stringOp .add ⟨l.toArray⟩ ⟨#[c]⟩).run Tryz.prog wx = .ok (.string ⟨(l ++ [c]).toArray⟩) wx := by
  have hla : (ByteArray.mk l.toArray).size = l.length := by show l.toArray.size = _; simp
  have hlb : (ByteArray.mk #[c]).size = 1 := rfl
  rw [run_string_add_sum wx _ _ (by omega)]
  congr 2
theorem conv_byte (wx : World) (g : Nat) (c : UInt8) (hc : wx.cell? ⟨g, 0, none⟩ = some (.int .u8 c.toNat)) (cap : Nat) : (convert 102 9 (.slice (some ⟨g, 0, none⟩) 1 cap)).run Tryz.prog wx = .ok (.string ⟨#[c]⟩) wx :=
  run_convert_bytes_back wx 102 9 5 ⟨g, 0, none⟩ cap [c] Tryz.underlying102 Tryz.underlying5 Tryz.underlying9 (fun j hj => by
    have : j = 0 := by simp at hj; exact hj
    subst this
    exact hc)
def inText (c : UInt8) : Bool := decide (32 ≤ c.toNat) && decide (c.toNat ≤ 126)
theorem rseen_walk (c : UInt8) (w : World) : Calls Tryz.prog 59 #[.int .u8 (c.toNat : Int)] w fun e w' => e = .returned (.bool (inText c)) ∧ w' = w := by
  by_cases h1 : 32 ≤ c.toNat
  · have h1' : (32 : Int) ≤ (c.toNat : Int) := by omega
    by_cases h2 : c.toNat ≤ 126
    · have h2' : (c.toNat : Int) ≤ 126 := by omega
      have HI : Hid (inText c = true) := by show _ = _; simp [inText, h1, h2]
      clear h1 h2
      generalize (c.toNat : Int) = n at *
      rw [HI.out]
      go_enter Tryz.func59, Tryz.ntmps59
      go_wp2
      go_ret
      exact ⟨rfl, rfl⟩
    · have h2' : ¬ (c.toNat : Int) ≤ 126 := by omega
      have HI : Hid (inText c = false) := by show _ = _; simp [inText, h2]
      clear h1 h2
      generalize (c.toNat : Int) = n at *
      rw [HI.out]
      go_enter Tryz.func59, Tryz.ntmps59
      go_wp2
      go_ret
      exact ⟨rfl, rfl⟩
  · have h1' : ¬ (32 : Int) ≤ (c.toNat : Int) := by omega
    have HI : Hid (inText c = false) := by show _ = _; simp [inText, h1]
    clear h1
    generalize (c.toNat : Int) = n at *
    rw [HI.out]
    go_enter Tryz.func59, Tryz.ntmps59
    go_wp2
    go_ret
    exact ⟨rfl, rfl⟩
theorem plain_iff {c : UInt8} (h34 : c ≠ 34) (h92 : c ≠ 92) : isPlain c = inText c := by
  have e1 : (c != 34) = true := bne_iff_ne.2 h34
  have e2 : (c != 92) = true := bne_iff_ne.2 h92
  unfold isPlain inText
  rw [e1, e2, Bool.and_true, Bool.and_true]
theorem plain_out {c : UInt8} (h : inText c = false) : isPlain c = false := by
  unfold isPlain inText at *
  rw [h]; rfl
/-- How the document's quoted ends. -/
def RQ (s : ByteArray) (a : Nat) (e : Ending) : Prop :=
  (∃ (t r : Bytes) (a' : Nat), quoted (s.data.toList.drop a) = some (t, r) ∧ e = .returned (.tuple #[.string ⟨t.toArray⟩, .int .i64 (a' : Int), .bool true]) ∧ a' ≤ s.size ∧ s.data.toList.drop a' = r ∧ t.length ≤ s.size) ∨
  (quoted (s.data.toList.drop a) = none ∧ e = .returned (.tuple #[.string ⟨#[]⟩, .int .i64 (a : Int), .bool false]))
end Go.Proofs.YtmfdfopjeinglaaGreatDoor.Txt
/- The document's own quoted. -/
namespace Go.Proofs.YtmfdfopjeinglaaGreatDoor.Txt
open Go.RowKit Go.Proofs.YtmfdfopjeinglaaGreatDoor.Sha
theorem quoted_at {s : ByteArray} {a : Nat} (ha : a < s.size) (hc : s[a] = 34) : quoted (s.data.toList.drop a) = chars (s.data.toList.drop (a + 1)) := by
  rw [drop_cons s a ha, quoted, if_pos hc]
theorem quoted_not {s : ByteArray} {a : Nat} (ha : a < s.size) (hc : s[a] ≠ 34) : quoted (s.data.toList.drop a) = none := by
  rw [drop_cons s a ha, quoted, if_neg hc]
theorem u8_test {c d : UInt8} : ((c.toNat : Int) == (d.toNat : Int)) = (c == d) := by
  by_cases h : c = d
  · subst h; simp
  · have : (c.toNat : Int) ≠ (d.toNat : Int) := fun e => h (UInt8.toNat_inj.1 (by omega))
    rw [beq_eq_false_iff_ne.2 this, beq_eq_false_iff_ne.2 h]
theorem u8_yes {c : UInt8} (d : UInt8) (n : Int) (hn : (d.toNat : Int) = n) (h : c = d) : ((c.toNat : Int) == n) = true := by rw [← hn, u8_test, h]; simp
theorem u8_no {c : UInt8} (d : UInt8) (n : Int) (hn : (d.toNat : Int) = n) (h : c ≠ d) : ((c.toNat : Int) == n) = false := by rw [← hn, u8_test]; simpa using h
theorem u8_nyes {c : UInt8} (d : UInt8) (n : Int) (hn : (d.toNat : Int) = n) (h : c ≠ d) : ((c.toNat : Int) != n) = true := by rw [bne, u8_no d n hn h]; rfl
theorem u8_nno {c : UInt8} (d : UInt8) (n : Int) (hn : (d.toNat : Int) = n) (h : c = d) : ((c.toNat : Int) != n) = false := by rw [bne, u8_yes d n hn h]; rfl
set_option maxHeartbeats 1000000 in
theorem rquoted_walk (s : ByteArray) (a : Nat) (w : World) (ha : a ≤ s.size) (hs : s.size ≤ 140737488355327) :
    Calls Tryz.prog 46 #[.string s, .int .i64 (a : Int)] w fun e w' => RQ s a e ∧ Below w.heap.size w w' := by
  by_cases hlt : a < s.size
  · have hge : ¬ (s.size : Int) ≤ (a : Int) := by omega
    by_cases h34 : s[a] = 34
    · have t34 := u8_nno 34 34 rfl h34
      have HQ : Hid (quoted (s.data.toList.drop a) = chars (s.data.toList.drop (a + 1))) := quoted_at hlt h34
      clear h34
      go_enter Tryz.func46, Tryz.ntmps46
      go_wp2
      go_loopw [7, 8] (fun o v wr => ∃ (k : Nat) (acc : Bytes), o = .string ⟨acc.toArray⟩ ∧ v = .int .i64 (k : Int) ∧ k ≤ s.size ∧ Hid (Read (s.data.toList.drop (a + 1)) acc (s.data.toList.drop k)) ∧ acc.length ≤ k ∧ Below w.heap.size w wr) (fun _ v _ => s.size - (intOf v).toNat)
      case atStart => exact ⟨a + 1, [], rfl, by go_num, by omega, Read.start _, Nat.zero_le _, Below.refl _ _⟩
      case round =>
        obtain ⟨k, acc, rfl, rfl, hk, HI, hal, hB⟩ := hrel
        have hzr := hB.size
        by_cases hkl : k < s.size
        · have hkl' : (k : Int) < (s.size : Int) := by omega
          have HD : Hid (s.data.toList.drop k = s[k] :: s.data.toList.drop (k + 1)) := drop_cons s k hkl
          go_wp2_with fail
          refine (rseen_walk s[k] _).mono ?_
          rintro e w' ⟨rfl, rfl⟩
          by_cases c34 : s[k] = 34
          · have t1 := u8_yes 34 34 rfl c34
            have HF : Hid (RQ s a (.returned (.tuple #[.string ⟨acc.toArray⟩, .int .i64 ((k : Int) + 1), .bool true]))) := by
              refine Or.inl ⟨acc, s.data.toList.drop (k + 1), k + 1, ?_, by simp, hkl, rfl, by omega⟩
              have := HI.out
              unfold Read at this
              rw [HQ.out, this, HD.out, chars_cons, if_pos c34]
              simp
            clear c34
            go_wp2
            go_ret3
            exact ⟨HF.out, hB⟩
          · have t1 := u8_no 34 34 rfl c34
            cases hin : inText s[k] with
            | false =>
              have HF : Hid (RQ s a (.returned (.tuple #[.string ⟨#[]⟩, .int .i64 (a : Int), .bool false]))) := by
                refine Or.inr ⟨?_, rfl⟩
                have := HI.out
                unfold Read at this
                rw [HQ.out, this, HD.out, chars_cons, if_neg c34]
                have h92 : s[k] ≠ 92 := by intro e; rw [e] at hin; revert hin; decide
                rw [if_neg h92, plain_out hin, if_neg (by decide)]
                rfl
              clear c34 hin
              go_wp2
              go_ret3
              exact ⟨HF.out, hB⟩
            | true =>
              by_cases c92 : s[k] = 92
              · have t2 := u8_yes 92 92 rfl c92
                by_cases hk1 : k + 1 < s.size
                · have hk1' : (k : Int) + 1 < (s.size : Int) := by omega
                  have hk1g : ¬ (s.size : Int) ≤ (k : Int) + 1 := by omega
                  have HD2 : Hid (s.data.toList.drop k = 92 :: s[k + 1] :: s.data.toList.drop (k + 2)) := by show _ = _; rw [HD.out, drop_cons s (k + 1) hk1, c92]
                  have hix : ((k : Int) + 1).toNat = k + 1 := by omega
                  clear c34 c92 hin
                  by_cases d34 : s[k + 1] = 34
                  · have d0 := d34
                    have q34 := u8_yes 34 34 rfl d34
                    have hv : (s[k + 1].toNat : Int) = 34 := by rw [d34]; rfl
                    clear d34
                    have HR : Hid (Read (s.data.toList.drop (a + 1)) (acc ++ [34]) (s.data.toList.drop (k + 2))) := by
                      have hm : meant s[k + 1] = 34 := by rw [d0]; rfl
                      have := HI.out.esc HD2.out (by rw [hm]; decide)
                      rw [hm] at this
                      exact this
                    have a1 := add_byte acc 34 (by omega)
                    have cv := fun (wx : World) => conv_byte (wx.alloc (.cells #[.int .u8 34] 5)) wx.heap.size 34 (by simp)
                    clear d0
                    go_wp2
                    go_roundw
                    case rel => exact ⟨k + 2, _, rfl, by go_num, by omega, HR, by simp; omega, hB.alloc hzr _⟩
                    case measure => simp [intOf]; omega
                  · have q34 := u8_no 34 34 rfl d34
                    by_cases d92 : s[k + 1] = 92
                    · have d0 := d92
                      have q92 := u8_yes 92 92 rfl d92
                      have hv : (s[k + 1].toNat : Int) = 92 := by rw [d92]; rfl
                      clear d92
                      have HR : Hid (Read (s.data.toList.drop (a + 1)) (acc ++ [92]) (s.data.toList.drop (k + 2))) := by
                        have hm : meant s[k + 1] = 92 := by rw [d0]; rfl
                        have := HI.out.esc HD2.out (by rw [hm]; decide)
                        rw [hm] at this
                        exact this
                      have a1 := add_byte acc 92 (by omega)
                      have cv := fun (wx : World) => conv_byte (wx.alloc (.cells #[.int .u8 92] 5)) wx.heap.size 92 (by simp)
                      clear d0
                      go_wp2
                      go_roundw
                      case rel => exact ⟨k + 2, _, rfl, by go_num, by omega, HR, by simp; omega, hB.alloc hzr _⟩
                      case measure => simp [intOf]; omega
                    · have q92 := u8_no 92 92 rfl d92
                      by_cases d47 : s[k + 1] = 47
                      · have d0 := d47
                        have q47 := u8_yes 47 47 rfl d47
                        have hv : (s[k + 1].toNat : Int) = 47 := by rw [d47]; rfl
                        clear d47
                        have HR : Hid (Read (s.data.toList.drop (a + 1)) (acc ++ [47]) (s.data.toList.drop (k + 2))) := by
                          have hm : meant s[k + 1] = 47 := by rw [d0]; rfl
                          have := HI.out.esc HD2.out (by rw [hm]; decide)
                          rw [hm] at this
                          exact this
                        have a1 := add_byte acc 47 (by omega)
                        have cv := fun (wx : World) => conv_byte (wx.alloc (.cells #[.int .u8 47] 5)) wx.heap.size 47 (by simp)
                        clear d0
                        go_wp2
                        go_roundw
                        case rel => exact ⟨k + 2, _, rfl, by go_num, by omega, HR, by simp; omega, hB.alloc hzr _⟩
                        case measure => simp [intOf]; omega
                      · have q47 := u8_no 47 47 rfl d47
                        by_cases d110 : s[k + 1] = 110
                        · have d0 := d110
                          have q110 := u8_yes 110 110 rfl d110
                          clear d110
                          have HR : Hid (Read (s.data.toList.drop (a + 1)) (acc ++ [10]) (s.data.toList.drop (k + 2))) := by
                            have hm : meant s[k + 1] = 10 := by rw [d0]; rfl
                            have := HI.out.esc HD2.out (by rw [hm]; decide)
                            rw [hm] at this
                            exact this
                          have a1 := add_byte acc 10 (by omega)
                          have cv := fun (wx : World) => conv_byte (wx.alloc (.cells #[.int .u8 10] 5)) wx.heap.size 10 (by simp)
                          clear d0
                          go_wp2
                          go_roundw
                          case rel => exact ⟨k + 2, _, rfl, by go_num, by omega, HR, by simp; omega, hB.alloc hzr _⟩
                          case measure => simp [intOf]; omega
                        · have q110 := u8_no 110 110 rfl d110
                          by_cases d116 : s[k + 1] = 116
                          · have d0 := d116
                            have q116 := u8_yes 116 116 rfl d116
                            clear d116
                            have HR : Hid (Read (s.data.toList.drop (a + 1)) (acc ++ [9]) (s.data.toList.drop (k + 2))) := by
                              have hm : meant s[k + 1] = 9 := by rw [d0]; rfl
                              have := HI.out.esc HD2.out (by rw [hm]; decide)
                              rw [hm] at this
                              exact this
                            have a1 := add_byte acc 9 (by omega)
                            have cv := fun (wx : World) => conv_byte (wx.alloc (.cells #[.int .u8 9] 5)) wx.heap.size 9 (by simp)
                            clear d0
                            go_wp2
                            go_roundw
                            case rel => exact ⟨k + 2, _, rfl, by go_num, by omega, HR, by simp; omega, hB.alloc hzr _⟩
                            case measure => simp [intOf]; omega
                          · have q116 := u8_no 116 116 rfl d116
                            have HF : Hid (RQ s a (.returned (.tuple #[.string ⟨#[]⟩, .int .i64 (a : Int), .bool false]))) := by
                              refine Or.inr ⟨?_, rfl⟩
                              rw [HQ.out]
                              refine HI.out.bad HD2.out ?_
                              unfold meant
                              simp [d34, d92, d47, d110, d116]
                            clear d34 d92 d47 d110 d116
                            go_wp2
                            go_ret3
                            exact ⟨HF.out, hB⟩
                · have hk1g : (s.size : Int) ≤ (k : Int) + 1 := by omega
                  have HF : Hid (RQ s a (.returned (.tuple #[.string ⟨#[]⟩, .int .i64 (a : Int), .bool false]))) := by
                    refine Or.inr ⟨?_, rfl⟩
                    rw [HQ.out]
                    refine HI.out.cut ?_
                    rw [HD.out, drop_end s (k + 1) (by omega), c92]
                  clear c34 c92 hin
                  go_wp2
                  go_ret3
                  exact ⟨HF.out, hB⟩
              · have t2 := u8_no 92 92 rfl c92
                have HR : Hid (Read (s.data.toList.drop (a + 1)) (acc ++ [s[k]]) (s.data.toList.drop (k + 1))) := HI.out.plain HD.out (by rw [plain_iff c34 c92]; exact hin)
                have a1 := add_byte acc s[k] (by omega)
                have cv := fun (wx : World) => conv_byte (wx.alloc (.cells #[.int .u8 (s[k].toNat : Int)] 5)) wx.heap.size s[k] (by simp)
                clear c34 c92 hin
                go_wp2
                go_roundw
                case rel => exact ⟨k + 1, _, rfl, by go_num, by omega, HR, by simp; omega, hB.alloc hzr _⟩
                case measure => simp [intOf]; omega
        · have hkl' : ¬ (k : Int) < (s.size : Int) := by omega
          have HF : Hid (RQ s a (.returned (.tuple #[.string ⟨#[]⟩, .int .i64 (a : Int), .bool false]))) := by
            refine Or.inr ⟨?_, rfl⟩
            have := HI.out
            unfold Read at this
            rw [HQ.out, this, drop_end s k (by omega)]
            rfl
          go_wp2
          go_ret3
          exact ⟨HF.out, hB⟩
    · have t34 := u8_nyes 34 34 rfl h34
      have HF : Hid (RQ s a (.returned (.tuple #[.string ⟨#[]⟩, .int .i64 (a : Int), .bool false]))) := Or.inr ⟨quoted_not hlt h34, rfl⟩
      clear h34
      go_enter Tryz.func46, Tryz.ntmps46
      go_wp2
      go_ret3
      exact ⟨HF.out, Below.refl _ _⟩
  · have hge : (s.size : Int) ≤ (a : Int) := by omega
    have HF : Hid (RQ s a (.returned (.tuple #[.string ⟨#[]⟩, .int .i64 (a : Int), .bool false]))) := Or.inr ⟨by rw [drop_end s a (by omega)]; rfl, rfl⟩
    go_enter Tryz.func46, Tryz.ntmps46
    go_wp2
    go_ret3
    exact ⟨HF.out, Below.refl _ _⟩
end Go.Proofs.YtmfdfopjeinglaaGreatDoor.Txt
/- Words and numbers as the document's own value finds them. -/
namespace Go.Proofs.YtmfdfopjeinglaaGreatDoor.Txt
open Go.RowKit Go.Proofs.YtmfdfopjeinglaaGreatDoor.Sha
theorem results_tmp4 {fn : Func} {t u v x : Tmp} (h : fn.results = #[.tmp t, .tmp u, .tmp v, .tmp x]) (tmps : Array Value) (P : Program) (w : World) :
    (results fn tmps).run P w = .ok (.tuple #[tmps.getD t undef, tmps.getD u undef, tmps.getD v undef, tmps.getD x undef]) w := by
  simp [results, h]
def wrd : Nat → Bytes
  | 0 => [116, 114, 117, 101]
  | 1 => [102, 97, 108, 115, 101]
  | _ => [110, 117, 108, 108]
theorem word_iff : ∀ (t l r : Bytes), word t l = some r ↔ l = t ++ r
  | [], l, r => by simp [word]
  | c :: t, l, r => by
    unfold word
    cases l with
    | nil => simp [want]
    | cons d l =>
      rw [want]
      by_cases h : d = c
      · rw [if_pos h, Option.bind_some, word_iff t l r, h]; simp
      · rw [if_neg h]; simp [h]
theorem ext_list (s : ByteArray) (m k : Nat) : (s.extract m k).data.toList = (s.data.toList.drop m).take (k - m) := by
  rw [ByteArray.data_extract, Array.toList_extract, List.extract_eq_take_drop]
theorem word_yes {s : ByteArray} {a n : Nat} {t : Bytes} (h : (s.extract a (a + n)).data.toList = t) : word t (s.data.toList.drop a) = some (s.data.toList.drop (a + n)) := by
  rw [word_iff]
  rw [ext_list, show a + n - a = n by omega] at h
  rw [← List.take_append_drop n (s.data.toList.drop a), h, List.drop_drop]
theorem word_no {s : ByteArray} {a n : Nat} {t : Bytes} (hn : t.length = n) (hp : 0 < n) (h : a + n ≤ s.size → (s.extract a (a + n)).data.toList ≠ t) : word t (s.data.toList.drop a) = none := by
  cases hw : word t (s.data.toList.drop a) with
  | none => rfl
  | some r =>
    exfalso
    rw [word_iff] at hw
    have hl : s.data.toList.length = s.size := by simp
    have h1 := congrArg List.length hw
    rw [List.length_drop, List.length_append, hn, hl] at h1
    refine h (by omega) ?_
    rw [ext_list, hw, show a + n - a = n by omega, ← hn, List.take_left]
theorem number_other {c : UInt8} (t : Bytes) (h1 : c ≠ 45) (h2 : isDigit c = false) : number (c :: t) = none := by
  unfold number
  rw [unsigned, if_neg h1, List.takeWhile_cons, h2]
  rfl
theorem value_word0 {l r : Bytes} (h : word [116, 114, 117, 101] l = some r) : value l = some (none, r) := by
  have h0 := h
  rw [word_iff] at h
  rw [h] at h0 ⊢
  show value (116 :: _) = _
  rw [value, if_neg (by decide), if_pos rfl]
  exact congrArg (Option.map _) h0
theorem value_word1 {l r : Bytes} (h : word [102, 97, 108, 115, 101] l = some r) : value l = some (none, r) := by
  have h0 := h
  rw [word_iff] at h
  rw [h] at h0 ⊢
  show value (102 :: _) = _
  rw [value, if_neg (by decide), if_neg (by decide), if_pos rfl]
  exact congrArg (Option.map _) h0
theorem value_word2 {l r : Bytes} (h : word [110, 117, 108, 108] l = some r) : value l = some (none, r) := by
  have h0 := h
  rw [word_iff] at h
  rw [h] at h0 ⊢
  show value (110 :: _) = _
  rw [value, if_neg (by decide), if_neg (by decide), if_neg (by decide), if_pos rfl]
  exact congrArg (Option.map _) h0
theorem value_else {l : Bytes} (hq : quoted l = none) (h0 : word (wrd 0) l = none) (h1 : word (wrd 1) l = none) (h2 : word (wrd 2) l = none) : value l = (number l).map fun r => (none, r) := by
  cases l with
  | nil => rfl
  | cons c t =>
    rw [value]
    split
    · rename_i e
      rw [quoted, if_pos e] at hq
      rw [hq, e, number_other t (by decide) (by decide)]; rfl
    split
    · rename_i e
      rw [show word [116, 114, 117, 101] (c :: t) = none from h0, e, number_other t (by decide) (by decide)]
    split
    · rename_i e
      rw [show word [102, 97, 108, 115, 101] (c :: t) = none from h1, e, number_other t (by decide) (by decide)]
    split
    · rename_i e
      rw [show word [110, 117, 108, 108] (c :: t) = none from h2, e, number_other t (by decide) (by decide)]
    · rfl
theorem rq_value {l t r : Bytes} (h : quoted l = some (t, r)) : value l = some (some t, r) := by
  cases l with
  | nil => cases h
  | cons c u =>
    rw [quoted] at h
    split at h
    · rename_i e
      rw [value, if_pos e, h]; rfl
    · cases h
/-- How the document's value ends. -/
def RV (s : ByteArray) (a : Nat) (e : Ending) : Prop :=
  (∃ (b : Bool) (t r : Bytes) (a' : Nat), value (s.data.toList.drop a) = some ((if b then some t else none), r) ∧ e = .returned (.tuple #[.string ⟨t.toArray⟩, .bool b, .int .i64 (a' : Int), .bool true]) ∧ a' ≤ s.size ∧ s.data.toList.drop a' = r ∧ t.length ≤ s.size ∧ (b = false → t = [])) ∨
  (value (s.data.toList.drop a) = none ∧ ∃ a' : Nat, e = .returned (.tuple #[.string ⟨#[]⟩, .bool false, .int .i64 (a' : Int), .bool false]) ∧ a' ≤ s.size)
/-- The three words, where the call laid them. -/
structure WordsAt (B : Nat) (w : World) : Prop where
  c0 : w.cell? ⟨B, 0, none⟩ = some (.string ⟨#[116, 114, 117, 101]⟩)
  c1 : w.cell? ⟨B, 1, none⟩ = some (.string ⟨#[102, 97, 108, 115, 101]⟩)
  c2 : w.cell? ⟨B, 2, none⟩ = some (.string ⟨#[110, 117, 108, 108]⟩)
theorem wordsAt_new (w : World) : WordsAt w.heap.size (w.alloc (.cells #[.string ⟨#[116, 114, 117, 101]⟩, .string ⟨#[102, 97, 108, 115, 101]⟩, .string ⟨#[110, 117, 108, 108]⟩] 9)) := ⟨by simp, by simp, by simp⟩
theorem take_step {s : ByteArray} {f e : Nat} (hfe : f ≤ e) (hel : e < s.size) : (s.data.toList.drop f).take (e + 1 - f) = (s.data.toList.drop f).take (e - f) ++ [s[e]] := by
  have hl : s.data.toList.length = s.size := by simp
  rw [show e + 1 - f = e - f + 1 by omega, List.take_add_one, List.getElem?_drop, show f + (e - f) = e by omega, List.getElem?_eq_getElem (by omega)]
  simp [ByteArray.getElem_eq_getElem_data]
theorem digs_more {s : ByteArray} {f e : Nat} (hfe : f ≤ e) (hel : e < s.size) (h : ((s.data.toList.drop f).take (e - f)).all isDigit = true) (hd : isDigit s[e] = true) : ((s.data.toList.drop f).take (e + 1 - f)).all isDigit = true := by
  rw [take_step hfe hel, List.all_append, h]
  simp [hd]
theorem take_while_app {p : UInt8 → Bool} : ∀ (x y : Bytes), x.all p = true → (∀ c r, y = c :: r → p c = false) → (x ++ y).takeWhile p = x ∧ (x ++ y).dropWhile p = y
  | [], y, _, h => by
    cases y with
    | nil => exact ⟨rfl, rfl⟩
    | cons c r => rw [List.nil_append, List.takeWhile_cons, List.dropWhile_cons, h c r rfl]; exact ⟨rfl, rfl⟩
  | c :: x, y, hx, h => by
    rw [List.all_cons, Bool.and_eq_true] at hx
    obtain ⟨e1, e2⟩ := take_while_app x y hx.2 h
    rw [List.cons_append, List.takeWhile_cons, List.dropWhile_cons, hx.1, if_pos rfl, if_pos rfl, e1, e2]
    exact ⟨rfl, rfl⟩
theorem digs_end {s : ByteArray} {f e : Nat} (hfe : f ≤ e) (h : ((s.data.toList.drop f).take (e - f)).all isDigit = true) (hd : ∀ h : e < s.size, isDigit s[e] = false) : (s.data.toList.drop f).takeWhile isDigit = (s.data.toList.drop f).take (e - f) ∧ (s.data.toList.drop f).dropWhile isDigit = s.data.toList.drop e := by
  have hd2 : (s.data.toList.drop f).drop (e - f) = s.data.toList.drop e := by rw [List.drop_drop, show f + (e - f) = e by omega]
  have := take_while_app (p := isDigit) ((s.data.toList.drop f).take (e - f)) (s.data.toList.drop e) h (fun c r hc => by
    rcases Nat.lt_or_ge e s.size with hl | hl
    · rw [drop_cons s e hl] at hc
      injection hc with hc _
      rw [← hc]; exact hd hl
    · rw [drop_end s e hl] at hc; cases hc)
  rw [← hd2, List.take_append_drop] at this
  rw [← hd2]
  exact this
theorem fine_num (d : Bytes) (h : d.all isDigit = true) : fine d = Go.Proofs.YtmfdfopjeinglaaGreatDoor.numOk d := by
  have e : ∀ c, isDigit c = Go.Proofs.YtmfdfopjeinglaaGreatDoor.digB c := fun c => by
    unfold isDigit Go.Proofs.YtmfdfopjeinglaaGreatDoor.digB
    by_cases h1 : 48 ≤ c.toNat <;> by_cases h2 : c.toNat ≤ 57 <;> simp [h1, h2]
  have h2 : d.all Go.Proofs.YtmfdfopjeinglaaGreatDoor.digB = true := by rw [← h]; congr 1; funext c; exact (e c).symm
  unfold fine Go.Proofs.YtmfdfopjeinglaaGreatDoor.numOk
  rw [h2]
  cases d with
  | nil => rfl
  | cons c t =>
    simp only [List.length_cons, List.isEmpty_cons, List.head?_cons, Bool.not_false, Bool.true_and, Bool.and_true]
    have e1 : (t.length + 1 != 0) = true := by simp
    rw [e1, Bool.true_and]
    congr 1
    congr 1
    rw [Bool.and_comm]
    congr 1
    by_cases hc : c = 48 <;> simp [hc]
theorem rv_number {s : ByteArray} {a f e : Nat} (HN : value (s.data.toList.drop a) = (number (s.data.toList.drop a)).map fun r => (none, r)) (HU : s.data.toList.drop f = unsigned (s.data.toList.drop a)) (hes : e ≤ s.size)
    (HA : ((s.data.toList.drop f).take (e - f)).all isDigit = true)
    (HE : (s.data.toList.drop f).takeWhile isDigit = (s.data.toList.drop f).take (e - f) ∧ (s.data.toList.drop f).dropWhile isDigit = s.data.toList.drop e) :
    RV s a (.returned (.tuple #[.string ⟨#[]⟩, .bool false, .int .i64 (e : Int), .bool (decide (0 ≤ Go.Proofs.YtmfdfopjeinglaaGreatDoor.numI (s.extract f e).data.toList))])) := by
  have hnum : number (s.data.toList.drop a) = if fine ((s.data.toList.drop f).take (e - f)) then some (s.data.toList.drop e) else none := by
    unfold number
    rw [← HU, HE.1, HE.2]
  rw [ext_list]
  generalize (s.data.toList.drop f).take (e - f) = d at *
  rw [fine_num d HA] at hnum
  cases hk : Go.Proofs.YtmfdfopjeinglaaGreatDoor.numOk d with
  | true =>
    rw [hk, if_pos rfl] at hnum
    have := (Go.Proofs.YtmfdfopjeinglaaGreatDoor.numI_ge hk).1
    rw [decide_eq_true this]
    exact Or.inl ⟨false, [], _, e, by rw [HN, hnum]; rfl, rfl, hes, rfl, Nat.zero_le _, fun _ => rfl⟩
  | false =>
    rw [hk, if_neg (by decide)] at hnum
    rw [Go.Proofs.YtmfdfopjeinglaaGreatDoor.numI_no hk]
    exact Or.inr ⟨by rw [HN, hnum]; rfl, e, rfl, hes⟩
end Go.Proofs.YtmfdfopjeinglaaGreatDoor.Txt
