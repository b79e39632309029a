/- Words and numbers as the document's own value finds them. -/
import Derived.Test.YtfngjfnakokgmaaGreatDoorRTSeenToRTQuot
import Derived.Test.YtfngjfnakokgmaaGreatDoorRefCToListSplit
namespace Go.Proofs.YtfngjfnakokgmaaGreatDoor.Txt
open Go.RowKit Go.Proofs.YtfngjfnakokgmaaGreatDoor.Sha
theorem results_tmp4 {fn : Func} {t u v x : Tmp} (h : fn.results = #[.tmp t, .tmp u, .tmp v, .tmp x]) (tmps : Array Value) (P : Program) (w : World) :
    (results fn tmps).run P w = .ok (.tuple #[tmps.getD t undef, tmps.getD u undef, tmps.getD v undef, tmps.getD x undef]) w := by
  simp [results, h]
def wrd : Nat → Bytes
  | 0 => [116, 114, 117, 101]
  | 1 => [102, 97, 108, 115, 101]
  | _ => [110, 117, 108, 108]
theorem word_iff : ∀ (t l r : Bytes), word t l = some r ↔ l = t ++ r
  | [], l, r => by simp [word]
  | c :: t, l, r => by
    unfold word
    cases l with
    | nil => simp [want]
    | cons d l =>
      rw [want]
      by_cases h : d = c
      · rw [if_pos h, Option.bind_some, word_iff t l r, h]; simp
      · rw [if_neg h]; simp [h]
theorem ext_list (s : ByteArray) (m k : Nat) : (s.extract m k).data.toList = (s.data.toList.drop m).take (k - m) := by
  rw [ByteArray.data_extract, Array.toList_extract, List.extract_eq_take_drop]
theorem word_yes {s : ByteArray} {a n : Nat} {t : Bytes} (h : (s.extract a (a + n)).data.toList = t) : word t (s.data.toList.drop a) = some (s.data.toList.drop (a + n)) := by
  rw [word_iff]
  rw [ext_list, show a + n - a = n by omega] at h
  rw [← List.take_append_drop n (s.data.toList.drop a), h, List.drop_drop]
theorem word_no {s : ByteArray} {a n : Nat} {t : Bytes} (hn : t.length = n) (hp : 0 < n) (h : a + n ≤ s.size → (s.extract a (a + n)).data.toList ≠ t) : word t (s.data.toList.drop a) = none := by
  cases hw : word t (s.data.toList.drop a) with
  | none => rfl
  | some r =>
    exfalso
    rw [word_iff] at hw
    have hl : s.data.toList.length = s.size := by simp
    have h1 := congrArg List.length hw
    rw [List.length_drop, List.length_append, hn, hl] at h1
    refine h (by omega) ?_
    rw [ext_list, hw, show a + n - a = n by omega, ← hn, List.take_left]
theorem number_other {c : UInt8} (t : Bytes) (h1 : c ≠ 45) (h2 : isDigit c = false) : number (c :: t) = none := by
  unfold number
  rw [unsigned, if_neg h1, List.takeWhile_cons, h2]
  rfl
theorem value_word0 {l r : Bytes} (h : word [116, 114, 117, 101] l = some r) : value l = some (none, r) := by
  have h0 := h
  rw [word_iff] at h
  rw [h] at h0 ⊢
  show value (116 :: _) = _
  rw [value, if_neg (by decide), if_pos rfl]
  exact congrArg (Option.map _) h0
theorem value_word1 {l r : Bytes} (h : word [102, 97, 108, 115, 101] l = some r) : value l = some (none, r) := by
  have h0 := h
  rw [word_iff] at h
  rw [h] at h0 ⊢
  show value (102 :: _) = _
  rw [value, if_neg (by decide), if_neg (by decide), if_pos rfl]
  exact congrArg (Option.map _) h0
theorem value_word2 {l r : Bytes} (h : word [110, 117, 108, 108] l = some r) : value l = some (none, r) := by
  have h0 := h
  rw [word_iff] at h
  rw [h] at h0 ⊢
  show value (110 :: _) = _
  rw [value, if_neg (by decide), if_neg (by decide), if_neg (by decide), if_pos rfl]
  exact congrArg (Option.map _) h0
theorem value_else {l : Bytes} (hq : quoted l = none) (h0 : word (wrd 0) l = none) (h1 : word (wrd 1) l = none) (h2 : word (wrd 2) l = none) : value l = (number l).map fun r => (none, r) := by
  cases l with
  | nil => rfl
  | cons c t =>
    rw [value]
    split
    · rename_i e
      rw [quoted, if_pos e] at hq
      rw [hq, e, number_other t (by decide) (by decide)]; rfl
    split
    · rename_i e
      rw [show word [116, 114, 117, 101] (c :: t) = none from h0, e, number_other t (by decide) (by decide)]
    split
    · rename_i e
      rw [show word [102, 97, 108, 115, 101] (c :: t) = none from h1, e, number_other t (by decide) (by decide)]
    split
    · rename_i e
      rw [show word [110, 117, 108, 108] (c :: t) = none from h2, e, number_other t (by decide) (by decide)]
    · rfl
theorem rq_value {l t r : Bytes} (h : quoted l = some (t, r)) : value l = some (some t, r) := by
  cases l with
  | nil => cases h
  | cons c u =>
    rw [quoted] at h
    split at h
    · rename_i e
      rw [value, if_pos e, h]; rfl
    · cases h
/-- How the document's value ends. -/
def RV (s : ByteArray) (a : Nat) (e : Ending) : Prop :=
  (∃ (b : Bool) (t r : Bytes) (a' : Nat), value (s.data.toList.drop a) = some ((if b then some t else none), r) ∧ e = .returned (.tuple #[.string ⟨t.toArray⟩, .bool b, .int .i64 (a' : Int), .bool true]) ∧ a' ≤ s.size ∧ s.data.toList.drop a' = r ∧ t.length ≤ s.size ∧ (b = false → t = [])) ∨
  (value (s.data.toList.drop a) = none ∧ ∃ a' : Nat, e = .returned (.tuple #[.string ⟨#[]⟩, .bool false, .int .i64 (a' : Int), .bool false]) ∧ a' ≤ s.size)
/-- The three words, where the call laid them. -/
structure WordsAt (B : Nat) (w : World) : Prop where
  c0 : w.cell? ⟨B, 0, none⟩ = some (.string ⟨#[116, 114, 117, 101]⟩)
  c1 : w.cell? ⟨B, 1, none⟩ = some (.string ⟨#[102, 97, 108, 115, 101]⟩)
  c2 : w.cell? ⟨B, 2, none⟩ = some (.string ⟨#[110, 117, 108, 108]⟩)
theorem wordsAt_new (w : World) : WordsAt w.heap.size (w.alloc (.cells #[.string ⟨#[116, 114, 117, 101]⟩, .string ⟨#[102, 97, 108, 115, 101]⟩, .string ⟨#[110, 117, 108, 108]⟩] 9)) := ⟨by simp, by simp, by simp⟩
theorem take_step {s : ByteArray} {f e : Nat} (hfe : f ≤ e) (hel : e < s.size) : (s.data.toList.drop f).take (e + 1 - f) = (s.data.toList.drop f).take (e - f) ++ [s[e]] := by
  have hl : s.data.toList.length = s.size := by simp
  rw [show e + 1 - f = e - f + 1 by omega, List.take_add_one, List.getElem?_drop, show f + (e - f) = e by omega, List.getElem?_eq_getElem (by omega)]
  simp [ByteArray.getElem_eq_getElem_data]
theorem digs_more {s : ByteArray} {f e : Nat} (hfe : f ≤ e) (hel : e < s.size) (h : ((s.data.toList.drop f).take (e - f)).all isDigit = true) (hd : isDigit s[e] = true) : ((s.data.toList.drop f).take (e + 1 - f)).all isDigit = true := by
  rw [take_step hfe hel, List.all_append, h]
  simp [hd]
theorem take_while_app {p : UInt8 → Bool} : ∀ (x y : Bytes), x.all p = true → (∀ c r, y = c :: r → p c = false) → (x ++ y).takeWhile p = x ∧ (x ++ y).dropWhile p = y
  | [], y, _, h => by
    cases y with
    | nil => exact ⟨rfl, rfl⟩
    | cons c r => rw [List.nil_append, List.takeWhile_cons, List.dropWhile_cons, h c r rfl]; exact ⟨rfl, rfl⟩
  | c :: x, y, hx, h => by
    rw [List.all_cons, Bool.and_eq_true] at hx
    obtain ⟨e1, e2⟩ := take_while_app x y hx.2 h
    rw [List.cons_append, List.takeWhile_cons, List.dropWhile_cons, hx.1, if_pos rfl, if_pos rfl, e1, e2]
    exact ⟨rfl, rfl⟩
theorem digs_end {s : ByteArray} {f e : Nat} (hfe : f ≤ e) (h : ((s.data.toList.drop f).take (e - f)).all isDigit = true) (hd : ∀ h : e < s.size, isDigit s[e] = false) : (s.data.toList.drop f).takeWhile isDigit = (s.data.toList.drop f).take (e - f) ∧ (s.data.toList.drop f).dropWhile isDigit = s.data.toList.drop e := by
  have hd2 : (s.data.toList.drop f).drop (e - f) = s.data.toList.drop e := by rw [List.drop_drop, show f + (e - f) = e by omega]
  have := take_while_app (p := isDigit) ((s.data.toList.drop f).take (e - f)) (s.data.toList.drop e) h (fun c r hc => by
    rcases Nat.lt_or_ge e s.size with hl | hl
    · rw [drop_cons s e hl] at hc
      injection hc with hc _
      rw [← hc]; exact hd hl
    · rw [drop_end s e hl] at hc; cases hc)
  rw [← hd2, List.take_append_drop] at this
  rw [← hd2]
  exact this
theorem fine_num (d : Bytes) (h : d.all isDigit = true) : fine d = Go.Proofs.YtfngjfnakokgmaaGreatDoor.numOk d := by
  have e : ∀ c, isDigit c = Go.Proofs.YtfngjfnakokgmaaGreatDoor.digB c := fun c => by
    unfold isDigit Go.Proofs.YtfngjfnakokgmaaGreatDoor.digB
    by_cases h1 : 48 ≤ c.toNat <;> by_cases h2 : c.toNat ≤ 57 <;> simp [h1, h2]
  have h2 : d.all Go.Proofs.YtfngjfnakokgmaaGreatDoor.digB = true := by rw [← h]; congr 1; funext c; exact (e c).symm
  unfold fine Go.Proofs.YtfngjfnakokgmaaGreatDoor.numOk
  rw [h2]
  cases d with
  | nil => rfl
  | cons c t =>
    simp only [List.length_cons, List.isEmpty_cons, List.head?_cons, Bool.not_false, Bool.true_and, Bool.and_true]
    have e1 : (t.length + 1 != 0) = true := by simp
    rw [e1, Bool.true_and]
    congr 1
    congr 1
    rw [Bool.and_comm]
    congr 1
    by_cases hc : c = 48 <;> simp [hc]
theorem rv_number {s : ByteArray} {a f e : Nat} (HN : value (s.data.toList.drop a) = (number (s.data.toList.drop a)).map fun r => (none, r)) (HU : s.data.toList.drop f = unsigned (s.data.toList.drop a)) (hes : e ≤ s.size)
    (HA : ((s.data.toList.drop f).take (e - f)).all isDigit = true)
    (HE : (s.data.toList.drop f).takeWhile isDigit = (s.data.toList.drop f).take (e - f) ∧ (s.data.toList.drop f).dropWhile isDigit = s.data.toList.drop e) :
    RV s a (.returned (.tuple #[.string ⟨#[]⟩, .bool false, .int .i64 (e : Int), .bool (decide (0 ≤ Go.Proofs.YtfngjfnakokgmaaGreatDoor.numI (s.extract f e).data.toList))])) := by
  have hnum : number (s.data.toList.drop a) = if fine ((s.data.toList.drop f).take (e - f)) then some (s.data.toList.drop e) else none := by
    unfold number
    rw [← HU, HE.1, HE.2]
  rw [ext_list]
  generalize (s.data.toList.drop f).take (e - f) = d at *
  rw [fine_num d HA] at hnum
  cases hk : Go.Proofs.YtfngjfnakokgmaaGreatDoor.numOk d with
  | true =>
    rw [hk, if_pos rfl] at hnum
    have := (Go.Proofs.YtfngjfnakokgmaaGreatDoor.numI_ge hk).1
    rw [decide_eq_true this]
    exact Or.inl ⟨false, [], _, e, by rw [HN, hnum]; rfl, rfl, hes, rfl, Nat.zero_le _, fun _ => rfl⟩
  | false =>
    rw [hk, if_neg (by decide)] at hnum
    rw [Go.Proofs.YtfngjfnakokgmaaGreatDoor.numI_no hk]
    exact Or.inr ⟨by rw [HN, hnum]; rfl, e, rfl, hes⟩
end Go.Proofs.YtfngjfnakokgmaaGreatDoor.Txt
