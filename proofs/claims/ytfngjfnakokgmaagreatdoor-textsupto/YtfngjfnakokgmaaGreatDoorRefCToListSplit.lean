/- The document's own orderText, orderMark: they tell the plain order of texts and marks. -/
import Derived.Test.YtfngjfnakokgmaaGreatDoorListCompToRefB
import Derived.Test.YtfngjfnakokgmaaGreatDoorNumbersToMarks
namespace Go.Proofs.YtfngjfnakokgmaaGreatDoor
open Go.RowKit

theorem drewN_add (w : World) (a b : Nat) : (w.drewN a).drewN b = w.drewN (a + b) := by
  show ({ w with drawn := _ } : World) = _
  simp [World.drewN, Nat.add_assoc]
theorem drewN_hid {w wr : World} (h : Hid (∃ n, wr = w.drewN n)) (m : Nat) : Hid (∃ n, wr.drewN m = w.drewN n) := by
  obtain ⟨n, rfl⟩ := h.out
  exact ⟨n + m, drewN_add _ _ _⟩
theorem wrap_byte (c : UInt8) : wrap64 (c.toNat : Int) = c.toNat := by
  have := c.toNat_lt
  unfold wrap64
  omega
theorem cmpB_drop (s t : ByteArray) (k : Nat) (h : k < s.size) (h' : k < t.size) : cmpB (s.data.toList.drop k) (t.data.toList.drop k) = if cmpI s[k].toNat t[k].toNat = 0 then cmpB (s.data.toList.drop (k + 1)) (t.data.toList.drop (k + 1)) else cmpI s[k].toNat t[k].toNat := by
  rw [drop_at s k h, drop_at t k h']; rfl
theorem cmpI_eq0 (c d : UInt8) : cmpI c.toNat d.toNat = 0 ↔ c = d := by
  rw [cmpI_good.eq0 _ _ trivial trivial]
  exact ⟨fun e => UInt8.toNat_inj.1 (by omega), fun e => by rw [e]⟩
theorem cmpB_end (s t : ByteArray) (k : Nat) (hk : k ≤ s.size) (hk' : k ≤ t.size) (h : ¬ (k < s.size ∧ k < t.size)) : cmpB (s.data.toList.drop k) (t.data.toList.drop k) = cmpI s.size t.size := by
  by_cases h1 : k < s.size
  · have h2 : ¬ k < t.size := fun h2 => h ⟨h1, h2⟩
    rw [drop_at s k h1, List.drop_of_length_le (l := t.data.toList) (by rw [size_len]; omega)]
    show (1 : Int) = _
    rw [cmpI, if_neg (by omega), if_pos (by omega)]
  · rw [List.drop_of_length_le (l := s.data.toList) (by rw [size_len]; omega)]
    by_cases h2 : k < t.size
    · rw [drop_at t k h2]
      show (-1 : Int) = _
      rw [cmpI, if_pos (by omega)]
    · rw [List.drop_of_length_le (l := t.data.toList) (by rw [size_len]; omega)]
      show (0 : Int) = _
      rw [cmpI, if_neg (by omega), if_neg (by omega)]

set_option maxHeartbeats 1000000 in
theorem orderText_walk (s t : ByteArray) (w : World) (hs : s.size ≤ 1099511627776) :
    Calls Tryz.prog 55 #[.string s, .string t] w fun e w' => e = .returned (.int .i64 (cmpB s.data.toList t.data.toList)) ∧ ∃ n, w' = w.drewN n := by
  go_enter Tryz.func55, Tryz.ntmps55
  go_wp2
  go_loopw [5] (fun i wr => ∃ (k : Nat), k ≤ s.size ∧ k ≤ t.size ∧ i = .int .i64 k ∧ Hid (∃ n, wr = w.drewN n) ∧ Hid (cmpB s.data.toList t.data.toList = cmpB (s.data.toList.drop k) (t.data.toList.drop k))) (fun i _ => s.size - (intOf i).toNat)
  case atStart => exact ⟨0, Nat.zero_le _, Nat.zero_le _, rfl, ⟨0, rfl⟩, rfl⟩
  case round =>
    obtain ⟨k, hk, hk', rfl, HD, HX⟩ := hrel
    by_cases hlt : k < s.size
    · by_cases hlt' : k < t.size
      · have HL : Hid (cmpB (s.data.toList.drop k) (t.data.toList.drop k) = if cmpI s[k].toNat t[k].toNat = 0 then cmpB (s.data.toList.drop (k + 1)) (t.data.toList.drop (k + 1)) else cmpI s[k].toNat t[k].toNat) := cmpB_drop s t k hlt hlt'
        have hb := u8_beq s[k] t[k]
        by_cases he : s[k] = t[k]
        · have he' : (s[k] == t[k]) = true := by simpa using he
          rw [he'] at hb
          have HE : Hid (cmpI s[k].toNat t[k].toNat = 0) := (cmpI_eq0 _ _).2 he
          clear he he'
          go_wp2
          go_quiet (fail)
          go_wp2
          go_roundw
          case rel => exact ⟨k + 1, by omega, by omega, by go_num, drewN_hid HD _, by show _ = _; rw [HX.out, HL.out, if_pos HE.out]⟩
          case measure => simp [intOf]; omega
        · have he' : (s[k] == t[k]) = false := by simpa using he
          rw [he'] at hb
          have HE : Hid (¬ cmpI s[k].toNat t[k].toNat = 0) := fun h => he ((cmpI_eq0 _ _).1 h)
          clear he he'
          go_wp2
          go_quiet (fail)
          have HD2 := drewN_hid HD nq
          generalize wr.drewN nq = w2 at *
          go_wp2
          go_quiet ((go_at_call 36; exact Calls.quiet_of_same (refOrder_walk _ _ _)))
          go_wp2
          go_ret
          exact ⟨by rw [HX.out, HL.out, if_neg HE.out, ← wrap_byte s[k], ← wrap_byte t[k]]; simp only [wrap_byte]; rfl, drewN_hid HD2 _⟩
      · have HL : Hid (cmpB (s.data.toList.drop k) (t.data.toList.drop k) = cmpI s.size t.size) := cmpB_end s t k hk hk' (fun h => hlt' h.2)
        go_wp2_with fail
        refine (refOrder_walk _ _ _).mono ?_
        rintro e w' ⟨rfl, rfl⟩
        go_wp2
        go_ret
        exact ⟨by rw [HX.out, HL.out]; rfl, HD.out⟩
    · have HL : Hid (cmpB (s.data.toList.drop k) (t.data.toList.drop k) = cmpI s.size t.size) := cmpB_end s t k hk hk' (fun h => hlt h.1)
      go_wp2_with fail
      refine (refOrder_walk _ _ _).mono ?_
      rintro e w' ⟨rfl, rfl⟩
      go_wp2
      go_ret
      exact ⟨by rw [HX.out, HL.out]; rfl, HD.out⟩

theorem numI_ge {l : List UInt8} (h : numOk l = true) : (0 : Int) ≤ numI l ∧ numI l = val l := by
  have e : numI l = val l := by rw [numI, if_pos h]
  exact ⟨by rw [e]; exact val_nonneg l (numOk_parts h).2.2.2, e⟩
theorem numI_no {l : List UInt8} (h : numOk l = false) : numI l = -1 := by rw [numI, if_neg (by rw [h]; decide)]
theorem numOk_isNum {l : List UInt8} (h : markOk l = true) : numOk l = isNum l := by
  by_cases n : isNum l = true
  · rw [n]; exact markOk_num h n
  · have n : isNum l = false := by simpa using n
    rw [n, ← Bool.not_eq_true]
    intro k
    have : isNum l = true := List.all_eq_true.2 (numOk_parts k).2.2.2
    rw [n] at this
    cases this

set_option maxHeartbeats 1000000 in
theorem orderMark_walk (s t : ByteArray) (w : World) (hs : s.size ≤ 1099511627776) (ht : t.size ≤ 1099511627776) (hm : markOk s.data.toList = true) (hm' : markOk t.data.toList = true) :
    Calls Tryz.prog 37 #[.string s, .string t] w fun e w' => e = .returned (.int .i64 (cmpM s.data.toList t.data.toList)) ∧ ∃ n, w' = w.drewN n := by
  have HC : Hid (cmpM s.data.toList t.data.toList = if numOk s.data.toList then (if numOk t.data.toList then cmpI (numI s.data.toList) (numI t.data.toList) else -1) else if numOk t.data.toList then 1 else cmpB s.data.toList t.data.toList) := by
    show _ = _
    rw [cmpM, ← numOk_isNum hm, ← numOk_isNum hm']
    by_cases h1 : numOk s.data.toList = true
    · by_cases h2 : numOk t.data.toList = true
      · simp [h1, h2, (numI_ge h1).2, (numI_ge h2).2]
      · simp [h1, h2]
    · simp [h1]
  clear hm hm'
  by_cases h1 : numOk s.data.toList = true
  · have hp := (numI_ge h1).1
    by_cases h2 : numOk t.data.toList = true
    · have hq := (numI_ge h2).1
      have HR : Hid (cmpM s.data.toList t.data.toList = cmpI (numI s.data.toList) (numI t.data.toList)) := by show _ = _; rw [HC.out, if_pos h1, if_pos h2]
      clear HC h1 h2
      go_enter Tryz.func37, Tryz.ntmps37
      go_wp2_with fail
      refine (refNumber_walk s _ hs).mono ?_
      rintro e w' ⟨rfl, rfl⟩
      go_wp2_with fail
      refine (refNumber_walk t _ ht).mono ?_
      rintro e w' ⟨rfl, rfl⟩
      generalize numI s.data.toList = p at *
      generalize numI t.data.toList = q at *
      go_wp2_with fail
      refine (refOrder_walk _ _ _).mono ?_
      rintro e w' ⟨rfl, rfl⟩
      go_wp2
      go_ret
      exact ⟨by rw [HR.out]; rfl, 0, rfl⟩
    · have h2 : numOk t.data.toList = false := by simpa using h2
      have HQ : Hid (numI t.data.toList = -1) := numI_no h2
      have HR : Hid (cmpM s.data.toList t.data.toList = -1) := by show _ = _; rw [HC.out, if_pos h1, if_neg (by rw [h2]; decide)]
      clear HC h1 h2
      go_enter Tryz.func37, Tryz.ntmps37
      go_wp2_with fail
      refine (refNumber_walk s _ hs).mono ?_
      rintro e w' ⟨rfl, rfl⟩
      go_wp2_with fail
      refine (refNumber_walk t _ ht).mono ?_
      rintro e w' ⟨rfl, rfl⟩
      rw [HQ.out]
      generalize numI s.data.toList = p at *
      go_wp2
      go_ret
      exact ⟨by rw [HR.out]; rfl, 0, rfl⟩
  · have h1 : numOk s.data.toList = false := by simpa using h1
    have HP : Hid (numI s.data.toList = -1) := numI_no h1
    by_cases h2 : numOk t.data.toList = true
    · have hq := (numI_ge h2).1
      have HR : Hid (cmpM s.data.toList t.data.toList = 1) := by show _ = _; rw [HC.out, if_neg (by rw [h1]; decide), if_pos h2]
      clear HC h1 h2
      go_enter Tryz.func37, Tryz.ntmps37
      go_wp2_with fail
      refine (refNumber_walk s _ hs).mono ?_
      rintro e w' ⟨rfl, rfl⟩
      rw [HP.out]
      go_wp2_with fail
      refine (refNumber_walk t _ ht).mono ?_
      rintro e w' ⟨rfl, rfl⟩
      generalize numI t.data.toList = q at *
      go_wp2
      go_ret
      exact ⟨by rw [HR.out]; rfl, 0, rfl⟩
    · have h2 : numOk t.data.toList = false := by simpa using h2
      have HQ : Hid (numI t.data.toList = -1) := numI_no h2
      have HR : Hid (cmpM s.data.toList t.data.toList = cmpB s.data.toList t.data.toList) := by show _ = _; rw [HC.out, if_neg (by rw [h1]; decide), if_neg (by rw [h2]; decide)]
      clear HC h1 h2
      go_enter Tryz.func37, Tryz.ntmps37
      go_wp2_with fail
      refine (refNumber_walk s _ hs).mono ?_
      rintro e w' ⟨rfl, rfl⟩
      rw [HP.out]
      go_wp2_with fail
      refine (refNumber_walk t _ ht).mono ?_
      rintro e w' ⟨rfl, rfl⟩
      rw [HQ.out]
      go_wp2_with fail
      refine (orderText_walk s t _ hs).mono ?_
      rintro e w' ⟨rfl, n, rfl⟩
      go_wp2
      go_ret
      exact ⟨by rw [HR.out]; rfl, n, rfl⟩
end Go.Proofs.YtfngjfnakokgmaaGreatDoor
/- The document's own split: a text cut at each byte of one kind; the pieces lie in new memory. -/
namespace Go.Proofs.YtfngjfnakokgmaaGreatDoor
open Go.RowKit

/-- A text cut at each byte c. -/
def splC (x : UInt8) : List UInt8 → List (List UInt8)
  | [] => [[]]
  | c :: r => if c = x then [] :: splC x r else match splC x r with | [] => [[c]] | h :: t => (c :: h) :: t
theorem splC_spl (l : List UInt8) : splC 46 l = spl l := by
  induction l with
  | nil => rfl
  | cons c r ih =>
    unfold splC spl
    rw [ih]
    split
    · rfl
    · cases spl r <;> rfl
theorem splC_ne (x : UInt8) (l : List UInt8) : splC x l ≠ [] := by
  cases l with
  | nil => simp [splC]
  | cons c r => unfold splC; split; simp; split <;> simp
theorem splC_len (x : UInt8) (l : List UInt8) : (∀ p ∈ splC x l, p.length ≤ l.length) ∧ (splC x l).length ≤ l.length + 1 := by
  induction l with
  | nil => simp [splC]
  | cons c r ih =>
    unfold splC
    split
    · refine ⟨fun p hp => ?_, by simp; exact ih.2⟩
      rcases List.mem_cons.1 hp with rfl | hp
      · simp
      · have := ih.1 p hp; simp; omega
    · cases hs : splC x r with
      | nil => exact absurd hs (splC_ne x r)
      | cons a t =>
        rw [hs] at ih
        refine ⟨fun p hp => ?_, by have := ih.2; simp at this ⊢; omega⟩
        rcases List.mem_cons.1 hp with rfl | hp
        · have := ih.1 a (by simp); simp; exact this
        · have := ih.1 p (by simp [hp]); simp; omega
theorem splC_none (x : UInt8) (l : List UInt8) (h : x ∉ l) : splC x l = [l] := by
  induction l with
  | nil => rfl
  | cons c r ih =>
    simp only [List.mem_cons, not_or] at h
    unfold splC
    rw [if_neg (fun e => h.1 e.symm), ih h.2]
theorem splC_at (x : UInt8) (a b : List UInt8) (h : x ∉ a) : splC x (a ++ x :: b) = a :: splC x b := by
  induction a with
  | nil => simp [splC]
  | cons c r ih =>
    simp only [List.mem_cons, not_or] at h
    rw [List.cons_append]
    conv => lhs; unfold splC
    rw [if_neg (fun e => h.1 e.symm), ih h.2]
/-- A slice of texts lies in memory. -/
def StrsAt (w : World) (v : Value) (L : List ByteArray) : Prop := ∃ base, L.length ≤ 101 ∧ w.ownsRow base 9 1 v L.length (L.map Value.string)
theorem StrsAt.below {w w' : World} {v : Value} {L : List ByteArray} (h : StrsAt w v L) (hb : Below w.heap.size w w') : StrsAt w' v L := by
  obtain ⟨base, hl, h⟩ := h; exact ⟨base, hl, own_below h hb⟩
theorem strInfo : (Tryz.prog.info? 9).map (fun i => (i.zero, i.size, i.bytes)) = some (some (.string ⟨#[]⟩), 1, 16) := by kernel_rfl

theorem extract_list (s : ByteArray) (m k : Nat) : (s.extract m k).data.toList = (s.data.toList.drop m).take (k - m) := by
  rw [Lib.extract_data]
/-- What one piece more does to what is cut so far. -/
theorem piece_end (x : UInt8) (s : ByteArray) (m k : Nat) (L : List ByteArray) (hk : k = s.size) (hm : m ≤ k) (h : L.map (·.data.toList) ++ splC x (s.data.toList.drop m) = splC x s.data.toList) (hn : x ∉ (s.data.toList.drop m).take (k - m)) : (L ++ [s.extract m k]).map (·.data.toList) = splC x s.data.toList := by
  have ht : (s.data.toList.drop m).take (k - m) = s.data.toList.drop m := List.take_of_length_le (by simp; omega)
  rw [ht] at hn
  rw [List.map_append, ← h, splC_none x _ hn]
  simp only [List.map_cons, List.map_nil, extract_list, ht]
theorem piece_more (x : UInt8) (s : ByteArray) (m k : Nat) (L : List ByteArray) (hk : k < s.size) (hm : m ≤ k) (hx : s[k] = x) (h : L.map (·.data.toList) ++ splC x (s.data.toList.drop m) = splC x s.data.toList) (hn : x ∉ (s.data.toList.drop m).take (k - m)) : (L ++ [s.extract m k]).map (·.data.toList) ++ splC x (s.data.toList.drop (k + 1)) = splC x s.data.toList := by
  have hd : s.data.toList.drop m = (s.data.toList.drop m).take (k - m) ++ x :: s.data.toList.drop (k + 1) := by
    have h1 := (List.take_append_drop (k - m) (s.data.toList.drop m)).symm
    rw [List.drop_drop, show m + (k - m) = k by omega, drop_at s k hk, hx] at h1
    exact h1
  rw [← h]
  conv => rhs; rw [hd]
  rw [splC_at x _ _ hn, List.map_append]
  simp only [List.map_cons, List.map_nil, extract_list, List.append_assoc, List.cons_append, List.nil_append]
theorem piece_skip (x : UInt8) (s : ByteArray) (m k : Nat) (hk : k < s.size) (hm : m ≤ k) (hx : s[k] ≠ x) (hn : x ∉ (s.data.toList.drop m).take (k - m)) : x ∉ (s.data.toList.drop m).take (k + 1 - m) := by
  have e : k + 1 - m = (k - m) + 1 := by omega
  rw [e, List.take_succ_eq_append_getElem (by simp; omega)]
  simp only [List.mem_append, List.mem_singleton, not_or]
  refine ⟨hn, fun h => hx ?_⟩
  have h1 : (s.data.toList.drop m)[k - m]? = some s[k] := by
    rw [List.getElem?_drop, show m + (k - m) = k by omega]
    exact Lib.data_getElem? s k hk
  have h2 : (s.data.toList.drop m)[k - m]? = some x := by
    rw [List.getElem?_eq_getElem (by simp; omega), ← h]
  exact Option.some.inj (h1.symm.trans h2)
theorem cells_new1 (w : World) (a : Value) (t : TypeId) : ∀ j u, [a][j]? = some u → (w.alloc (.cells #[a] t)).cell? ((⟨w.heap.size, 0, none⟩ : Addr).add j) = some u := by
  intro j u hj
  match j, hj with
  | 0, hj => simp at hj; subst hj; simp [Addr.add]

set_option maxRecDepth 100000 in
set_option maxHeartbeats 2000000 in
theorem refSplit_walk (s : ByteArray) (x : UInt8) (w : World) (hs : s.size ≤ 100) :
    Calls Tryz.prog 17 #[.string s, .int .u8 x.toNat] w fun e w' => ∃ (L : List ByteArray) (v : Value), L.map (·.data.toList) = splC x s.data.toList ∧ e = .returned v ∧ StrsAt w' v L ∧ Below w.heap.size w w' := by
  obtain ⟨i0, hi, hz0, hz1, hz2⟩ := info_parts strInfo
  go_enter Tryz.func17, Tryz.ntmps17
  go_wp2
  go_loopw [5, 6, 7] (fun v j i wr => ∃ (k m : Nat) (L : List ByteArray), k ≤ s.size + 1 ∧ m ≤ k ∧ L.length ≤ k ∧ i = .int .i64 k ∧ j = .int .i64 m ∧ wr.ownsRow w.heap.size 9 1 v L.length (L.map Value.string) ∧ Below w.heap.size w wr ∧
      Hid ((k ≤ s.size ∧ L.map (·.data.toList) ++ splC x (s.data.toList.drop m) = splC x s.data.toList ∧ x ∉ (s.data.toList.drop m).take (k - m)) ∨ (k = s.size + 1 ∧ L.map (·.data.toList) = splC x s.data.toList))) (fun _ _ i _ => s.size + 1 - (intOf i).toNat)
  case atStart => exact ⟨0, 0, [], Nat.zero_le _, Nat.le_refl _, Nat.le_refl _, rfl, rfl, World.ownsRow_nil _ _ _ _, Below.refl _ _, Or.inl ⟨Nat.zero_le _, rfl, by simp⟩⟩
  case round =>
    obtain ⟨k, m, L, hk, hmk, hLk, rfl, rfl, hown, hB, HX⟩ := hrel
    have hsz := hB.size
    by_cases hend : k ≤ s.size
    · by_cases he : k = s.size
      · have hb : ((k : Int) == (s.size : Int)) = true := by rw [beq_iff_eq]; omega
        have hle : (k : Int) ≤ (s.size : Int) := by omega
        clear he
        have HY : Hid ((L ++ [s.extract m k]).map (·.data.toList) = splC x s.data.toList) := by
          rcases HX.out with ⟨_, h1, h2⟩ | ⟨h1, _⟩
          · exact piece_end x s m k L (by have := beq_iff_eq.1 hb; omega) hmk h1 h2
          · omega
        have HK : Hid (k + 1 = s.size + 1) := by show _ = _; have := beq_iff_eq.1 hb; omega
        clear HX
        go_wp2_with (at_builtin; refine wpList_append_own _ rfl _ _ 39 rfl w.heap.size 9 i0 (.string ⟨#[]⟩) 1 16 Tryz.underlying39 hi hz0 hz1 hz2 rfl (by decide) _ _ _ rfl (hown.alloc _) ⟨wr.heap.size, 0, none⟩ 1 1 [.string (s.extract m k)] rfl rfl (cells_new1 _ _ _) (fun u hu => by simp at hu; subst hu; rfl) (by unfold maxLen; omega) (by omega) (by simp; omega) ?_)
        intro v' w2 hown' hgrow _
        have hB2 : Below w.heap.size w w2 := (hB.alloc hsz _).grown hgrow (by simp; omega) (fun j hj => (hown.lt j hj).1)
        clear hgrow
        go_wp2
        go_roundw
        case rel => exact ⟨k + 1, k + 1, L ++ [s.extract m k], by omega, Nat.le_refl _, by simp; omega, by go_num, by go_num, by simpa using hown', hB2, Or.inr ⟨HK.out, HY.out⟩⟩
        case measure => simp [intOf]; omega
      · have hlt : k < s.size := by omega
        have hb : ((k : Int) == (s.size : Int)) = false := by rw [beq_eq_false_iff_ne]; omega
        have hu := u8_beq s[k] x
        clear he
        have HX1 : Hid (L.map (·.data.toList) ++ splC x (s.data.toList.drop m) = splC x s.data.toList ∧ x ∉ (s.data.toList.drop m).take (k - m)) := by
          rcases HX.out with ⟨_, h1, h2⟩ | ⟨h1, _⟩
          · exact ⟨h1, h2⟩
          · omega
        clear HX
        by_cases hc : s[k] = x
        · have hc' : (s[k] == x) = true := by simpa using hc
          rw [hc'] at hu
          have HY : Hid ((L ++ [s.extract m k]).map (·.data.toList) ++ splC x (s.data.toList.drop (k + 1)) = splC x s.data.toList) := piece_more x s m k L hlt hmk hc HX1.out.1 HX1.out.2
          clear hc hc' HX1
          go_wp2_with (at_builtin; refine wpList_append_own _ rfl _ _ 39 rfl w.heap.size 9 i0 (.string ⟨#[]⟩) 1 16 Tryz.underlying39 hi hz0 hz1 hz2 rfl (by decide) _ _ _ rfl (hown.alloc _) ⟨wr.heap.size, 0, none⟩ 1 1 [.string (s.extract m k)] rfl rfl (cells_new1 _ _ _) (fun u hu => by simp at hu; subst hu; rfl) (by unfold maxLen; omega) (by omega) (by simp; omega) ?_)
          intro v' w2 hown' hgrow _
          have hB2 : Below w.heap.size w w2 := (hB.alloc hsz _).grown hgrow (by simp; omega) (fun j hj => (hown.lt j hj).1)
          clear hgrow
          go_wp2
          go_roundw
          case rel => exact ⟨k + 1, k + 1, L ++ [s.extract m k], by omega, Nat.le_refl _, by simp; omega, by go_num, by go_num, by simpa using hown', hB2, Or.inl ⟨by omega, HY.out, by simp⟩⟩
          case measure => simp [intOf]; omega
        · have hc' : (s[k] == x) = false := by simpa using hc
          rw [hc'] at hu
          have HY : Hid (x ∉ (s.data.toList.drop m).take (k + 1 - m)) := piece_skip x s m k hlt hmk hc HX1.out.2
          clear hc hc'
          go_wp2
          go_roundw
          case rel => exact ⟨k + 1, m, L, by omega, by omega, by omega, by go_num, rfl, hown, hB, Or.inl ⟨by omega, HX1.out.1, HY.out⟩⟩
          case measure => simp [intOf]; omega
    · have HY : Hid (L.map (·.data.toList) = splC x s.data.toList) := by
        rcases HX.out with ⟨h0, _⟩ | ⟨_, h1⟩
        · exact absurd h0 hend
        · exact h1
      clear HX
      go_wp2
      go_ret
      exact ⟨L, _, HY.out, rfl, ⟨w.heap.size, by omega, hown⟩, hB⟩
end Go.Proofs.YtfngjfnakokgmaaGreatDoor
/- strings.Split at a newline. -/
namespace Go.Proofs.YtfngjfnakokgmaaGreatDoor
open Go.Lib Go.RowKit
theorem splN_miss : ∀ (l : List UInt8), indexByte l 10 = -1 → splC 10 l = [l]
  | [], _ => rfl
  | b :: l, h => by
    unfold indexByte at h
    by_cases hb : (b == 10) = true
    · rw [if_pos hb] at h; cases h
    · rw [if_neg hb] at h
      have hge := indexByte_ge l 10
      by_cases hl : (indexByte l 10 == -1) = true
      · have := splN_miss l (beq_iff_eq.1 hl)
        unfold splC
        rw [if_neg (by simpa using hb), this]
      · rw [if_neg hl] at h; omega
theorem splN_hit : ∀ (l : List UInt8) (i : Nat), indexByte l 10 = (i : Int) → splC 10 l = l.take i :: splC 10 (l.drop (i + 1))
  | [], i, h => by unfold indexByte at h; omega
  | b :: l, i, h => by
    unfold indexByte at h
    by_cases hb : (b == 10) = true
    · rw [if_pos hb] at h
      have : i = 0 := by omega
      subst this
      have hb' : b = 10 := by simpa using hb
      conv => lhs; unfold splC
      simp [hb']
    · rw [if_neg hb] at h
      have hge := indexByte_ge l 10
      by_cases hl : (indexByte l 10 == -1) = true
      · rw [if_pos hl] at h; omega
      · rw [if_neg hl] at h
        have hne : ¬ indexByte l 10 = -1 := by simpa using hl
        obtain ⟨j, rfl⟩ : ∃ j, i = j + 1 := ⟨i - 1, by omega⟩
        have ih := splN_hit l j (by omega)
        conv => lhs; unfold splC
        rw [if_neg (by simpa using hb), ih]
        simp

theorem split_splN : ∀ (n : Nat) (l : List UInt8), l.length ≤ n → splitK [10] 0 (count l [10]) l = splC 10 l
  | n, l, hn => by
    have hge := index_ge l [10]
    have h1 : index l [10] = indexByte l 10 := index_one l 10
    by_cases hm : index l [10] = -1
    · rw [count_miss hm]
      show [l] = _
      rw [splN_miss l (by rw [← h1]; exact hm)]
    · obtain ⟨i, hi⟩ : ∃ i : Nat, index l [10] = (i : Int) := ⟨(index l [10]).toNat, by omega⟩
      have hroom := index_room l [10] (by omega)
      simp at hroom
      cases n with
      | zero => omega
      | succ n =>
        rw [count_hit (by simp) hi, Nat.add_comm]
        unfold splitK
        rw [if_neg (by simpa using hm), hi]
        have e : ((i : Int).toNat + 0) = i := by omega
        have e2 : ((i : Int).toNat + ([10] : List UInt8).length) = i + 1 := by simp
        rw [e, e2]
        have := split_splN n (l.drop (i + 1)) (by simp; omega)
        simp only [List.length_cons, List.length_nil, Nat.zero_add] at *
        rw [this, splN_hit l i (by rw [← h1]; exact hi)]
theorem count_splN : ∀ (n : Nat) (l : List UInt8), l.length ≤ n → count l [10] + 1 = (splC 10 l).length
  | n, l, hn => by
    have hge := index_ge l [10]
    have h1 : index l [10] = indexByte l 10 := index_one l 10
    by_cases hm : index l [10] = -1
    · rw [count_miss hm, splN_miss l (by rw [← h1]; exact hm)]; rfl
    · obtain ⟨i, hi⟩ : ∃ i : Nat, index l [10] = (i : Int) := ⟨(index l [10]).toNat, by omega⟩
      have hroom := index_room l [10] (by omega)
      simp at hroom
      cases n with
      | zero => omega
      | succ n =>
        have := count_splN n (l.drop (i + 1)) (by simp; omega)
        rw [count_hit (by simp) hi, splN_hit l i (by rw [← h1]; exact hi)]
        simp only [List.length_cons, List.length_nil, Nat.zero_add] at *
        omega
theorem splitB_splN (s : ByteArray) : (splitB ⟨#[10]⟩ 0 (countB s ⟨#[10]⟩) s).map (·.data.toList) = splC 10 s.data.toList := by
  rw [splitB_data]
  exact split_splN _ _ (Nat.le_refl _)
theorem countB_splN (s : ByteArray) : countB s ⟨#[10]⟩ + 1 = (splC 10 s.data.toList).length := count_splN _ _ (Nat.le_refl _)


theorem split_nl (s : ByteArray) (m : Int) (w : World) (hs : s.size ≤ 1048576) (hm : w.cell? ⟨22, 0, none⟩ = some (.int .i64 m)) :
    Calls Tryz.prog 29 #[.string s, .string ⟨#[10]⟩] w fun e w' => ∃ L : List ByteArray, L.map (·.data.toList) = splC 10 s.data.toList ∧ (∀ p ∈ L, p.size ≤ 1048576) ∧ L.length ≤ 1048577 ∧ e = .returned (.slice (some ⟨w.heap.size, 0, none⟩) L.length L.length) ∧ w' = w.alloc (.cells (L.map Value.string).toArray 9) := by
  refine (Tryz.strings_Split s ⟨#[10]⟩ m w (by omega) hm (by decide)).mono ?_
  rintro e w' ⟨rfl, rfl⟩
  have h1 := splitB_splN s
  have h2 := countB_splN s
  have hl := splC_len 10 s.data.toList
  rw [size_len] at hl
  refine ⟨_, h1, ?_, ?_, ?_, rfl⟩
  · intro p hp
    have := hl.1 p.data.toList (by rw [← h1]; exact List.mem_map_of_mem hp)
    rw [size_len] at this
    omega
  · have := congrArg List.length h1
    rw [List.length_map] at this
    omega
  · have := congrArg List.length h1
    rw [List.length_map] at this
    rw [this, ← h2]
end Go.Proofs.YtfngjfnakokgmaaGreatDoor
