/- The document's own split: a text cut at each byte of one kind; the pieces lie in new memory. -/
import Derived.Test.YtoeolaienpopfaaGreatDoorRefC
namespace Go.Proofs.YtoeolaienpopfaaGreatDoor
open Go.RowKit

/-- A text cut at each byte c. -/
def splC (x : UInt8) : List UInt8 → List (List UInt8)
  | [] => [[]]
  | c :: r => if c = x then [] :: splC x r else match splC x r with | [] => [[c]] | h :: t => (c :: h) :: t
theorem splC_spl (l : List UInt8) : splC 46 l = spl l := by
  induction l with
  | nil => rfl
  | cons c r ih =>
    unfold splC spl
    rw [ih]
    split
    · rfl
    · cases spl r <;> rfl
theorem splC_ne (x : UInt8) (l : List UInt8) : splC x l ≠ [] := by
  cases l with
  | nil => simp [splC]
  | cons c r => unfold splC; split; simp; split <;> simp
theorem splC_len (x : UInt8) (l : List UInt8) : (∀ p ∈ splC x l, p.length ≤ l.length) ∧ (splC x l).length ≤ l.length + 1 := by
  induction l with
  | nil => simp [splC]
  | cons c r ih =>
    unfold splC
    split
    · refine ⟨fun p hp => ?_, by simp; exact ih.2⟩
      rcases List.mem_cons.1 hp with rfl | hp
      · simp
      · have := ih.1 p hp; simp; omega
    · cases hs : splC x r with
      | nil => exact absurd hs (splC_ne x r)
      | cons a t =>
        rw [hs] at ih
        refine ⟨fun p hp => ?_, by have := ih.2; simp at this ⊢; omega⟩
        rcases List.mem_cons.1 hp with rfl | hp
        · have := ih.1 a (by simp); simp; exact this
        · have := ih.1 p (by simp [hp]); simp; omega
theorem splC_none (x : UInt8) (l : List UInt8) (h : x ∉ l) : splC x l = [l] := by
  induction l with
  | nil => rfl
  | cons c r ih =>
    simp only [List.mem_cons, not_or] at h
    unfold splC
    rw [if_neg (fun e => h.1 e.symm), ih h.2]
theorem splC_at (x : UInt8) (a b : List UInt8) (h : x ∉ a) : splC x (a ++ x :: b) = a :: splC x b := by
  induction a with
  | nil => simp [splC]
  | cons c r ih =>
    simp only [List.mem_cons, not_or] at h
    rw [List.cons_append]
    conv => lhs; unfold splC
    rw [if_neg (fun e => h.1 e.symm), ih h.2]
/-- A slice of texts lies in memory. -/
def StrsAt (w : World) (v : Value) (L : List ByteArray) : Prop := ∃ base, L.length ≤ 101 ∧ w.ownsRow base 9 1 v L.length (L.map Value.string)
theorem StrsAt.below {w w' : World} {v : Value} {L : List ByteArray} (h : StrsAt w v L) (hb : Below w.heap.size w w') : StrsAt w' v L := by
  obtain ⟨base, hl, h⟩ := h; exact ⟨base, hl, own_below h hb⟩
theorem strInfo : (Tryz.prog.info? 9).map (fun i => (i.zero, i.size, i.bytes)) = some (some (.string ⟨#[]⟩), 1, 16) := by kernel_rfl

theorem extract_list (s : ByteArray) (m k : Nat) : (s.extract m k).data.toList = (s.data.toList.drop m).take (k - m) := by
  rw [Lib.extract_data]
/-- What one piece more does to what is cut so far. -/
theorem piece_end (x : UInt8) (s : ByteArray) (m k : Nat) (L : List ByteArray) (hk : k = s.size) (hm : m ≤ k) (h : L.map (·.data.toList) ++ splC x (s.data.toList.drop m) = splC x s.data.toList) (hn : x ∉ (s.data.toList.drop m).take (k - m)) : (L ++ [s.extract m k]).map (·.data.toList) = splC x s.data.toList := by
  have ht : (s.data.toList.drop m).take (k - m) = s.data.toList.drop m := List.take_of_length_le (by simp; omega)
  rw [ht] at hn
  rw [List.map_append, ← h, splC_none x _ hn]
  simp only [List.map_cons, List.map_nil, extract_list, ht]
theorem piece_more (x : UInt8) (s : ByteArray) (m k : Nat) (L : List ByteArray) (hk : k < s.size) (hm : m ≤ k) (hx : s[k] = x) (h : L.map (·.data.toList) ++ splC x (s.data.toList.drop m) = splC x s.data.toList) (hn : x ∉ (s.data.toList.drop m).take (k - m)) : (L ++ [s.extract m k]).map (·.data.toList) ++ splC x (s.data.toList.drop (k + 1)) = splC x s.data.toList := by
  have hd : s.data.toList.drop m = (s.data.toList.drop m).take (k - m) ++ x :: s.data.toList.drop (k + 1) := by
    have h1 := (List.take_append_drop (k - m) (s.data.toList.drop m)).symm
    rw [List.drop_drop, show m + (k - m) = k by omega, drop_at s k hk, hx] at h1
    exact h1
  rw [← h]
  conv => rhs; rw [hd]
  rw [splC_at x _ _ hn, List.map_append]
  simp only [List.map_cons, List.map_nil, extract_list, List.append_assoc, List.cons_append, List.nil_append]
theorem piece_skip (x : UInt8) (s : ByteArray) (m k : Nat) (hk : k < s.size) (hm : m ≤ k) (hx : s[k] ≠ x) (hn : x ∉ (s.data.toList.drop m).take (k - m)) : x ∉ (s.data.toList.drop m).take (k + 1 - m) := by
  have e : k + 1 - m = (k - m) + 1 := by omega
  rw [e, List.take_succ_eq_append_getElem (by simp; omega)]
  simp only [List.mem_append, List.mem_singleton, not_or]
  refine ⟨hn, fun h => hx ?_⟩
  have h1 : (s.data.toList.drop m)[k - m]? = some s[k] := by
    rw [List.getElem?_drop, show m + (k - m) = k by omega]
    exact Lib.data_getElem? s k hk
  have h2 : (s.data.toList.drop m)[k - m]? = some x := by
    rw [List.getElem?_eq_getElem (by simp; omega), ← h]
  exact Option.some.inj (h1.symm.trans h2)
theorem cells_new1 (w : World) (a : Value) (t : TypeId) : ∀ j u, [a][j]? = some u → (w.alloc (.cells #[a] t)).cell? ((⟨w.heap.size, 0, none⟩ : Addr).add j) = some u := by
  intro j u hj
  match j, hj with
  | 0, hj => simp at hj; subst hj; simp [Addr.add]

set_option maxRecDepth 100000 in
set_option maxHeartbeats 2000000 in
theorem refSplit_walk (s : ByteArray) (x : UInt8) (w : World) (hs : s.size ≤ 100) :
    Calls Tryz.prog 32 #[.string s, .int .u8 x.toNat] w fun e w' => ∃ (L : List ByteArray) (v : Value), L.map (·.data.toList) = splC x s.data.toList ∧ e = .returned v ∧ StrsAt w' v L ∧ Below w.heap.size w w' := by
  obtain ⟨i0, hi, hz0, hz1, hz2⟩ := info_parts strInfo
  go_enter Tryz.func32, Tryz.ntmps32
  go_wp2
  go_loopw [5, 6, 7] (fun v j i wr => ∃ (k m : Nat) (L : List ByteArray), k ≤ s.size + 1 ∧ m ≤ k ∧ L.length ≤ k ∧ i = .int .i64 k ∧ j = .int .i64 m ∧ wr.ownsRow w.heap.size 9 1 v L.length (L.map Value.string) ∧ Below w.heap.size w wr ∧
      Hid ((k ≤ s.size ∧ L.map (·.data.toList) ++ splC x (s.data.toList.drop m) = splC x s.data.toList ∧ x ∉ (s.data.toList.drop m).take (k - m)) ∨ (k = s.size + 1 ∧ L.map (·.data.toList) = splC x s.data.toList))) (fun _ _ i _ => s.size + 1 - (intOf i).toNat)
  case atStart => exact ⟨0, 0, [], Nat.zero_le _, Nat.le_refl _, Nat.le_refl _, rfl, rfl, World.ownsRow_nil _ _ _ _, Below.refl _ _, Or.inl ⟨Nat.zero_le _, rfl, by simp⟩⟩
  case round =>
    obtain ⟨k, m, L, hk, hmk, hLk, rfl, rfl, hown, hB, HX⟩ := hrel
    have hsz := hB.size
    by_cases hend : k ≤ s.size
    · by_cases he : k = s.size
      · have hb : ((k : Int) == (s.size : Int)) = true := by rw [beq_iff_eq]; omega
        have hle : (k : Int) ≤ (s.size : Int) := by omega
        clear he
        have HY : Hid ((L ++ [s.extract m k]).map (·.data.toList) = splC x s.data.toList) := by
          rcases HX.out with ⟨_, h1, h2⟩ | ⟨h1, _⟩
          · exact piece_end x s m k L (by have := beq_iff_eq.1 hb; omega) hmk h1 h2
          · omega
        have HK : Hid (k + 1 = s.size + 1) := by show _ = _; have := beq_iff_eq.1 hb; omega
        clear HX
        go_wp2_with (at_builtin; refine wpList_append_own _ rfl _ _ 41 rfl w.heap.size 9 i0 (.string ⟨#[]⟩) 1 16 Tryz.underlying41 hi hz0 hz1 hz2 rfl (by decide) _ _ _ rfl (hown.alloc _) ⟨wr.heap.size, 0, none⟩ 1 1 [.string (s.extract m k)] rfl rfl (cells_new1 _ _ _) (fun u hu => by simp at hu; subst hu; rfl) (by unfold maxLen; omega) (by omega) (by simp; omega) ?_)
        intro v' w2 hown' hgrow _
        have hB2 : Below w.heap.size w w2 := (hB.alloc hsz _).grown hgrow (by simp; omega) (fun j hj => (hown.lt j hj).1)
        clear hgrow
        go_wp2
        go_roundw
        case rel => exact ⟨k + 1, k + 1, L ++ [s.extract m k], by omega, Nat.le_refl _, by simp; omega, by go_num, by go_num, by simpa using hown', hB2, Or.inr ⟨HK.out, HY.out⟩⟩
        case measure => simp [intOf]; omega
      · have hlt : k < s.size := by omega
        have hb : ((k : Int) == (s.size : Int)) = false := by rw [beq_eq_false_iff_ne]; omega
        have hu := u8_beq s[k] x
        clear he
        have HX1 : Hid (L.map (·.data.toList) ++ splC x (s.data.toList.drop m) = splC x s.data.toList ∧ x ∉ (s.data.toList.drop m).take (k - m)) := by
          rcases HX.out with ⟨_, h1, h2⟩ | ⟨h1, _⟩
          · exact ⟨h1, h2⟩
          · omega
        clear HX
        by_cases hc : s[k] = x
        · have hc' : (s[k] == x) = true := by simpa using hc
          rw [hc'] at hu
          have HY : Hid ((L ++ [s.extract m k]).map (·.data.toList) ++ splC x (s.data.toList.drop (k + 1)) = splC x s.data.toList) := piece_more x s m k L hlt hmk hc HX1.out.1 HX1.out.2
          clear hc hc' HX1
          go_wp2_with (at_builtin; refine wpList_append_own _ rfl _ _ 41 rfl w.heap.size 9 i0 (.string ⟨#[]⟩) 1 16 Tryz.underlying41 hi hz0 hz1 hz2 rfl (by decide) _ _ _ rfl (hown.alloc _) ⟨wr.heap.size, 0, none⟩ 1 1 [.string (s.extract m k)] rfl rfl (cells_new1 _ _ _) (fun u hu => by simp at hu; subst hu; rfl) (by unfold maxLen; omega) (by omega) (by simp; omega) ?_)
          intro v' w2 hown' hgrow _
          have hB2 : Below w.heap.size w w2 := (hB.alloc hsz _).grown hgrow (by simp; omega) (fun j hj => (hown.lt j hj).1)
          clear hgrow
          go_wp2
          go_roundw
          case rel => exact ⟨k + 1, k + 1, L ++ [s.extract m k], by omega, Nat.le_refl _, by simp; omega, by go_num, by go_num, by simpa using hown', hB2, Or.inl ⟨by omega, HY.out, by simp⟩⟩
          case measure => simp [intOf]; omega
        · have hc' : (s[k] == x) = false := by simpa using hc
          rw [hc'] at hu
          have HY : Hid (x ∉ (s.data.toList.drop m).take (k + 1 - m)) := piece_skip x s m k hlt hmk hc HX1.out.2
          clear hc hc'
          go_wp2
          go_roundw
          case rel => exact ⟨k + 1, m, L, by omega, by omega, by omega, by go_num, rfl, hown, hB, Or.inl ⟨by omega, HX1.out.1, HY.out⟩⟩
          case measure => simp [intOf]; omega
    · have HY : Hid (L.map (·.data.toList) = splC x s.data.toList) := by
        rcases HX.out with ⟨h0, _⟩ | ⟨_, h1⟩
        · exact absurd h0 hend
        · exact h1
      clear HX
      go_wp2
      go_ret
      exact ⟨L, _, HY.out, rfl, ⟨w.heap.size, by omega, hown⟩, hB⟩
end Go.Proofs.YtoeolaienpopfaaGreatDoor
