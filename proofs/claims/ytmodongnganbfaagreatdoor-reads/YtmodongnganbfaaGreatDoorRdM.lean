/- Replies: the document's split. -/
import Derived.Test.YtmodongnganbfaaGreatDoorRdJToRdL
import Derived.OwnWalk
namespace Go.Proofs.YtmodongnganbfaaGreatDoor.Rep
open Go.RowKit Go.Proofs.YtmodongnganbfaaGreatDoor Go.Proofs.YtmodongnganbfaaGreatDoor.Sha
/-- A text cut at each byte c. -/
def splC (x : UInt8) : List UInt8 → List (List UInt8)
  | [] => [[]]
  | c :: r => if c = x then [] :: splC x r else match splC x r with | [] => [[c]] | h :: t => (c :: h) :: t
theorem splC_ne (x : UInt8) (l : List UInt8) : splC x l ≠ [] := by
  cases l with
  | nil => simp [splC]
  | cons c r => unfold splC; split; simp; split <;> simp
theorem splC_len (x : UInt8) (l : List UInt8) : (∀ p ∈ splC x l, p.length ≤ l.length) ∧ (splC x l).length ≤ l.length + 1 := by
  induction l with
  | nil => simp [splC]
  | cons c r ih =>
    unfold splC
    split
    · refine ⟨fun p hp => ?_, by simp; exact ih.2⟩
      rcases List.mem_cons.1 hp with rfl | hp
      · simp
      · have := ih.1 p hp; simp; omega
    · cases hs : splC x r with
      | nil => exact absurd hs (splC_ne x r)
      | cons a t =>
        rw [hs] at ih
        refine ⟨fun p hp => ?_, by have := ih.2; simp at this ⊢; omega⟩
        rcases List.mem_cons.1 hp with rfl | hp
        · have := ih.1 a (by simp); simp; exact this
        · have := ih.1 p (by simp [hp]); simp; omega
theorem splC_none (x : UInt8) (l : List UInt8) (h : x ∉ l) : splC x l = [l] := by
  induction l with
  | nil => rfl
  | cons c r ih =>
    simp only [List.mem_cons, not_or] at h
    unfold splC
    rw [if_neg (fun e => h.1 e.symm), ih h.2]
theorem splC_at (x : UInt8) (a b : List UInt8) (h : x ∉ a) : splC x (a ++ x :: b) = a :: splC x b := by
  induction a with
  | nil => simp [splC]
  | cons c r ih =>
    simp only [List.mem_cons, not_or] at h
    rw [List.cons_append]
    conv => lhs; unfold splC
    rw [if_neg (fun e => h.1 e.symm), ih h.2]
/-- What one piece more does to what is cut so far. -/
theorem piece_end (x : UInt8) (s : ByteArray) (m k : Nat) (L : List ByteArray) (hk : k = s.size) (hm : m ≤ k) (h : L.map (·.data.toList) ++ splC x (s.data.toList.drop m) = splC x s.data.toList) (hn : x ∉ (s.data.toList.drop m).take (k - m)) : (L ++ [s.extract m k]).map (·.data.toList) = splC x s.data.toList := by
  have ht : (s.data.toList.drop m).take (k - m) = s.data.toList.drop m := List.take_of_length_le (by simp; omega)
  rw [ht] at hn
  rw [List.map_append, ← h, splC_none x _ hn]
  simp only [List.map_cons, List.map_nil, extract_list, ht]
theorem piece_more (x : UInt8) (s : ByteArray) (m k : Nat) (L : List ByteArray) (hk : k < s.size) (hm : m ≤ k) (hx : s[k] = x) (h : L.map (·.data.toList) ++ splC x (s.data.toList.drop m) = splC x s.data.toList) (hn : x ∉ (s.data.toList.drop m).take (k - m)) : (L ++ [s.extract m k]).map (·.data.toList) ++ splC x (s.data.toList.drop (k + 1)) = splC x s.data.toList := by
  have hd : s.data.toList.drop m = (s.data.toList.drop m).take (k - m) ++ x :: s.data.toList.drop (k + 1) := by
    have h1 := (List.take_append_drop (k - m) (s.data.toList.drop m)).symm
    rw [List.drop_drop, show m + (k - m) = k by omega, drop_at s k hk, hx] at h1
    exact h1
  rw [← h]
  conv => rhs; rw [hd]
  rw [splC_at x _ _ hn, List.map_append]
  simp only [List.map_cons, List.map_nil, extract_list, List.append_assoc, List.cons_append, List.nil_append]
theorem piece_skip (x : UInt8) (s : ByteArray) (m k : Nat) (hk : k < s.size) (hm : m ≤ k) (hx : s[k] ≠ x) (hn : x ∉ (s.data.toList.drop m).take (k - m)) : x ∉ (s.data.toList.drop m).take (k + 1 - m) := by
  have e : k + 1 - m = (k - m) + 1 := by omega
  rw [e, List.take_succ_eq_append_getElem (by simp; omega)]
  simp only [List.mem_append, List.mem_singleton, not_or]
  refine ⟨hn, fun h => hx ?_⟩
  have h1 : (s.data.toList.drop m)[k - m]? = some s[k] := by
    rw [List.getElem?_drop, show m + (k - m) = k by omega]
    exact Lib.data_getElem? s k hk
  have h2 : (s.data.toList.drop m)[k - m]? = some x := by
    rw [List.getElem?_eq_getElem (by simp; omega), ← h]
  exact Option.some.inj (h1.symm.trans h2)
set_option maxRecDepth 100000 in
set_option maxHeartbeats 2000000 in
theorem refSplitN_walk (s : ByteArray) (x : UInt8) (w : World) (hs : s.size ≤ 1000) :
    Calls Tryz.prog 72 #[.string s, .int .u8 x.toNat] w fun e w' => ∃ (L : List ByteArray) (v : Value), L.map (·.data.toList) = splC x s.data.toList ∧ L.length ≤ 1001 ∧ e = .returned v ∧ w'.ownsRow w.heap.size 9 1 v L.length (L.map Value.string) ∧ Below w.heap.size w w' := by
  obtain ⟨i0, hi, hz0, hz1, hz2⟩ := info_parts strInfo
  go_enter Tryz.func72, Tryz.ntmps72
  go_wp2
  go_loopw [5, 6, 7] (fun v j i wr => ∃ (k m : Nat) (L : List ByteArray), k ≤ s.size + 1 ∧ m ≤ k ∧ L.length ≤ k ∧ i = .int .i64 k ∧ j = .int .i64 m ∧ wr.ownsRow w.heap.size 9 1 v L.length (L.map Value.string) ∧ Below w.heap.size w wr ∧
      Hid ((k ≤ s.size ∧ L.map (·.data.toList) ++ splC x (s.data.toList.drop m) = splC x s.data.toList ∧ x ∉ (s.data.toList.drop m).take (k - m)) ∨ (k = s.size + 1 ∧ L.map (·.data.toList) = splC x s.data.toList))) (fun _ _ i _ => s.size + 1 - (intOf i).toNat)
  case atStart => exact ⟨0, 0, [], Nat.zero_le _, Nat.le_refl _, Nat.le_refl _, rfl, rfl, World.ownsRow_nil _ _ _ _, Below.refl _ _, Or.inl ⟨Nat.zero_le _, rfl, by simp⟩⟩
  case round =>
    obtain ⟨k, m, L, hk, hmk, hLk, rfl, rfl, hown, hB, HX⟩ := hrel
    have hsz := hB.size
    by_cases hend : k ≤ s.size
    · by_cases he : k = s.size
      · have hb : ((k : Int) == (s.size : Int)) = true := by rw [beq_iff_eq]; omega
        have hle : (k : Int) ≤ (s.size : Int) := by omega
        clear he
        have HY : Hid ((L ++ [s.extract m k]).map (·.data.toList) = splC x s.data.toList) := by
          rcases HX.out with ⟨_, h1, h2⟩ | ⟨h1, _⟩
          · exact piece_end x s m k L (by have := beq_iff_eq.1 hb; omega) hmk h1 h2
          · omega
        have HK : Hid (k + 1 = s.size + 1) := by show _ = _; have := beq_iff_eq.1 hb; omega
        clear HX
        go_wp2_with (at_builtin; refine wpList_append_own _ rfl _ _ 33 rfl w.heap.size 9 i0 (.string ⟨#[]⟩) 1 16 Tryz.underlying33 hi hz0 hz1 hz2 rfl (by decide) _ _ _ rfl (hown.alloc _) ⟨wr.heap.size, 0, none⟩ 1 1 [.string (s.extract m k)] rfl rfl (cells_new1 _ _ _) (fun u hu => by simp at hu; subst hu; rfl) (by unfold maxLen; omega) (by omega) (by simp; omega) ?_)
        intro v' w2 hown' hgrow _
        have hB2 : Below w.heap.size w w2 := (hB.alloc hsz _).grown hgrow (by simp; omega) (fun j hj => (hown.lt j hj).1)
        clear hgrow
        go_wp2
        go_roundw
        case rel => exact ⟨k + 1, k + 1, L ++ [s.extract m k], by omega, Nat.le_refl _, by simp; omega, by go_num, by go_num, by simpa using hown', hB2, Or.inr ⟨HK.out, HY.out⟩⟩
        case measure => simp [intOf]; omega
      · have hlt : k < s.size := by omega
        have hb : ((k : Int) == (s.size : Int)) = false := by rw [beq_eq_false_iff_ne]; omega
        have hu := u8_beq s[k] x
        clear he
        have HX1 : Hid (L.map (·.data.toList) ++ splC x (s.data.toList.drop m) = splC x s.data.toList ∧ x ∉ (s.data.toList.drop m).take (k - m)) := by
          rcases HX.out with ⟨_, h1, h2⟩ | ⟨h1, _⟩
          · exact ⟨h1, h2⟩
          · omega
        clear HX
        by_cases hc : s[k] = x
        · have hc' : (s[k] == x) = true := by simpa using hc
          rw [hc'] at hu
          have HY : Hid ((L ++ [s.extract m k]).map (·.data.toList) ++ splC x (s.data.toList.drop (k + 1)) = splC x s.data.toList) := piece_more x s m k L hlt hmk hc HX1.out.1 HX1.out.2
          clear hc hc' HX1
          go_wp2_with (at_builtin; refine wpList_append_own _ rfl _ _ 33 rfl w.heap.size 9 i0 (.string ⟨#[]⟩) 1 16 Tryz.underlying33 hi hz0 hz1 hz2 rfl (by decide) _ _ _ rfl (hown.alloc _) ⟨wr.heap.size, 0, none⟩ 1 1 [.string (s.extract m k)] rfl rfl (cells_new1 _ _ _) (fun u hu => by simp at hu; subst hu; rfl) (by unfold maxLen; omega) (by omega) (by simp; omega) ?_)
          intro v' w2 hown' hgrow _
          have hB2 : Below w.heap.size w w2 := (hB.alloc hsz _).grown hgrow (by simp; omega) (fun j hj => (hown.lt j hj).1)
          clear hgrow
          go_wp2
          go_roundw
          case rel => exact ⟨k + 1, k + 1, L ++ [s.extract m k], by omega, Nat.le_refl _, by simp; omega, by go_num, by go_num, by simpa using hown', hB2, Or.inl ⟨by omega, HY.out, by simp⟩⟩
          case measure => simp [intOf]; omega
        · have hc' : (s[k] == x) = false := by simpa using hc
          rw [hc'] at hu
          have HY : Hid (x ∉ (s.data.toList.drop m).take (k + 1 - m)) := piece_skip x s m k hlt hmk hc HX1.out.2
          clear hc hc'
          go_wp2
          go_roundw
          case rel => exact ⟨k + 1, m, L, by omega, by omega, by omega, by go_num, rfl, hown, hB, Or.inl ⟨by omega, HX1.out.1, HY.out⟩⟩
          case measure => simp [intOf]; omega
    · have HY : Hid (L.map (·.data.toList) = splC x s.data.toList) := by
        rcases HX.out with ⟨h0, _⟩ | ⟨_, h1⟩
        · exact absurd h0 hend
        · exact h1
      clear HX
      go_wp2
      go_ret
      exact ⟨L, _, HY.out, by omega, rfl, hown, hB⟩
theorem split_two (s : ByteArray) (x : UInt8) (w : World) (hs : s.size ≤ 1000) :
    Calls Tryz.prog 72 #[.string s, .int .u8 x.toNat] w fun e w' => ∃ ao n cap, e = .returned (.slice ao n cap) ∧ n = (splC x s.data.toList).length ∧ n ≤ 1001 ∧ (∀ p q, splC x s.data.toList = [p, q] → ∃ g, ao = some ⟨g, 0, none⟩ ∧ 2 ≤ cap ∧ w'.cell? ⟨g, 0, none⟩ = some (.string ⟨p.toArray⟩) ∧ w'.cell? ⟨g, 1, none⟩ = some (.string ⟨q.toArray⟩)) ∧ Below w.heap.size w w' := by
  refine (refSplitN_walk s x w hs).mono ?_
  rintro e w' ⟨L, v, hL, hn, rfl, hown, hB⟩
  have hO := Own.of_row hown
  have hlen : (L.map Value.string).length = (splC x s.data.toList).length := by rw [← hL]; simp
  have hln : (L.map Value.string).length = L.length := by simp
  have hne : L.map Value.string ≠ [] := by intro e; rw [e] at hlen; exact splC_ne x _ (List.eq_nil_of_length_eq_zero hlen.symm)
  rcases hO with ⟨_, h⟩ | ⟨g, cap, rfl, _, _, hc, hcell, _⟩
  · exact absurd h hne
  · refine ⟨_, _, _, rfl, hlen, by omega, ?_, hB⟩
    intro p q e
    rw [e] at hlen hL
    have h2 : L.length = 2 := by rw [hln] at hlen; exact hlen
    match L, h2, hL with
    | [a, b], _, hL =>
      simp only [List.map_cons, List.map_nil, List.cons.injEq, and_true] at hL
      refine ⟨g, rfl, by simpa using hc, ?_, ?_⟩
      · rw [hcell 0 (.string a) rfl, ← hL.1]
      · rw [hcell 1 (.string b) rfl, ← hL.2]
theorem cutAt_none {x : UInt8} : ∀ {l : Bytes}, x ∉ l → cutAt x l = (l, none)
  | [], _ => rfl
  | c :: l, h => by
    rw [List.mem_cons, not_or] at h
    rw [cutAt, if_neg (fun e => h.1 e.symm), cutAt_none h.2]
theorem cutAt_at {x : UInt8} : ∀ {a : Bytes} (b : Bytes), x ∉ a → cutAt x (a ++ x :: b) = (a, some b)
  | [], b, _ => by rw [List.nil_append, cutAt, if_pos rfl]
  | c :: a, b, h => by
    rw [List.mem_cons, not_or] at h
    rw [List.cons_append, cutAt, if_neg (fun e => h.1 e.symm), cutAt_at b h.2]
/-- Two pieces: what the first cut gives, and no more of the byte. -/
theorem two_pieces {x : UInt8} {l p q : Bytes} (h : splC x l = [p, q]) : cutAt x l = (p, some q) := by
  by_cases hx : x ∈ l
  · obtain ⟨a, b, rfl, ha⟩ := List.eq_append_cons_of_mem hx
    rw [splC_at x a b ha] at h
    by_cases hb : x ∈ b
    · obtain ⟨c, d, rfl, hc⟩ := List.eq_append_cons_of_mem hb
      rw [splC_at x c d hc] at h
      simp at h
      exact absurd h.2.2 (splC_ne x d)
    · rw [splC_none x b hb] at h
      simp only [List.cons.injEq, and_true] at h
      rw [cutAt_at b ha, h.1, h.2]
  · rw [splC_none x l hx] at h
    simp at h
/-- Not two: no cut, or more of the byte behind it. -/
theorem not_two {x : UInt8} {l : Bytes} (h : (splC x l).length ≠ 2) : (∃ p, cutAt x l = (p, none)) ∨ ∃ p q, cutAt x l = (p, some q) ∧ x ∈ q := by
  by_cases hx : x ∈ l
  · obtain ⟨a, b, rfl, ha⟩ := List.eq_append_cons_of_mem hx
    right
    refine ⟨a, b, cutAt_at b ha, ?_⟩
    by_cases hb : x ∈ b
    · exact hb
    · rw [splC_at x a b ha, splC_none x b hb] at h
      exact absurd rfl h
  · exact .inl ⟨l, cutAt_none hx⟩
theorem few_not {x : UInt8} {l : Bytes} (h : x ∈ l) (hd : isDigit x = false) : few l = none :=
  few_no (.inl (by
    rw [← Bool.not_eq_true]
    intro e
    have := List.all_eq_true.1 e x h
    rw [hd] at this
    cases this))
/-- What follows "bytes ". -/
def spanR (r : Bytes) : Option Span :=
  match cutAt 47 r with
  | (b, some t) =>
    match cutAt 45 b with
    | (x, some y) =>
      match few x, few y, few t with
      | some a, some b, some t => if a ≤ b ∧ b < t then some ⟨a, b, t⟩ else none
      | _, _, _ => none
    | _ => none
  | _ => none
theorem span_no {l : Bytes} (h : l.take 6 ≠ [98, 121, 116, 101, 115, 32]) : span l = none := by unfold span; rw [if_neg h]
theorem span_at {l : Bytes} (h : l.take 6 = [98, 121, 116, 101, 115, 32]) : span l = spanR (l.drop 6) := by unfold span; rw [if_pos h]; rfl
theorem spanR_not {r : Bytes} (h : (splC 47 r).length ≠ 2) : spanR r = none := by
  unfold spanR
  rcases not_two h with ⟨p, e⟩ | ⟨p, q, e, hq⟩
  · rw [e]
  · rw [e]
    simp only []
    have := few_not hq (by decide)
    split
    · rw [this]
      split
      · rename_i h1; cases h1
      · rfl
    · rfl
theorem spanR_not2 {r p q : Bytes} (h : splC 47 r = [p, q]) (h2 : (splC 45 p).length ≠ 2) : spanR r = none := by
  unfold spanR
  rw [two_pieces h]
  simp only []
  rcases not_two h2 with ⟨u, e⟩ | ⟨u, v, e, hv⟩
  · rw [e]
  · rw [e]
    simp only []
    rw [few_not hv (by decide)]
    split
    · rename_i h1 _; cases h1
    · rfl
theorem spanR_two {r p q u v : Bytes} (h : splC 47 r = [p, q]) (h2 : splC 45 p = [u, v]) : spanR r = match few u, few v, few q with | some a, some b, some t => if a ≤ b ∧ b < t then some ⟨a, b, t⟩ else none | _, _, _ => none := by
  unfold spanR
  rw [two_pieces h]
  simp only []
  rw [two_pieces h2]
/-- What the document's span tells. -/
def SpanR (l : Bytes) (a b t : Int) (ok : Bool) : Prop := ok = (span l).isSome ∧ ∀ s, span l = some s → a = (s.first : Int) ∧ b = (s.last : Int) ∧ t = (s.total : Int)
theorem SpanR.no {l : Bytes} (h : span l = none) (a b t : Int) : SpanR l a b t false := ⟨by rw [h]; rfl, fun s e => by rw [h] at e; cases e⟩
theorem SpanR.of {l u v q : Bytes} (h : span l = match few u, few v, few q with | some a, some b, some t => if a ≤ b ∧ b < t then some ⟨a, b, t⟩ else none | _, _, _ => none) : SpanR l (fewI u) (fewI v) (fewI q) (decide (0 ≤ fewI u) && (decide (fewI u ≤ fewI v) && decide (fewI v < fewI q))) := by
  unfold SpanR
  rw [h]
  unfold fewI
  cases few u with
  | none => simp
  | some a =>
    cases few v with
    | none => simp <;> omega
    | some b =>
      cases few q with
      | none => simp <;> omega
      | some t =>
        by_cases hc : a ≤ b ∧ b < t
        · simp only [if_pos hc]
          refine ⟨by simp; omega, fun s e => ?_⟩
          injection e with e
          subst e
          exact ⟨rfl, rfl, rfl⟩
        · simp only [if_neg hc]
          refine ⟨by simp; omega, fun s e => by cases e⟩
end Go.Proofs.YtmodongnganbfaaGreatDoor.Rep
