/- Names: what is one, plainly; strings.Split at a slash; isElementByte and checkElement of the program. -/
import Derived.Test.YtoeolaienpopfaaGreatDoorRefD
import Derived.Test.YtoeolaienpopfaaGreatDoorNumbers
import Derived.Test.YtoeolaienpopfaaGreatDoorParse
import Derived.Test.YtoeolaienpopfaaGreatDoorSent
namespace Go.Proofs.YtoeolaienpopfaaGreatDoor
open Go.RowKit
open Go.Lib

theorem splC_miss (x : UInt8) : ∀ (l : List UInt8), indexByte l x = -1 → splC x l = [l]
  | [], _ => rfl
  | b :: l, h => by
    unfold indexByte at h
    by_cases hb : (b == x) = true
    · rw [if_pos hb] at h; cases h
    · rw [if_neg hb] at h
      have hge := indexByte_ge l x
      by_cases hl : (indexByte l x == -1) = true
      · have := splC_miss x l (beq_iff_eq.1 hl)
        unfold splC
        rw [if_neg (by simpa using hb), this]
      · rw [if_neg hl] at h; omega
theorem splC_hit (x : UInt8) : ∀ (l : List UInt8) (i : Nat), indexByte l x = (i : Int) → splC x l = l.take i :: splC x (l.drop (i + 1))
  | [], i, h => by unfold indexByte at h; omega
  | b :: l, i, h => by
    unfold indexByte at h
    by_cases hb : (b == x) = true
    · rw [if_pos hb] at h
      have : i = 0 := by omega
      subst this
      have hb' : b = x := by simpa using hb
      conv => lhs; unfold splC
      simp [hb']
    · rw [if_neg hb] at h
      have hge := indexByte_ge l x
      by_cases hl : (indexByte l x == -1) = true
      · rw [if_pos hl] at h; omega
      · rw [if_neg hl] at h
        have hne : ¬ indexByte l x = -1 := by simpa using hl
        obtain ⟨j, rfl⟩ : ∃ j, i = j + 1 := ⟨i - 1, by omega⟩
        have ih := splC_hit x l j (by omega)
        conv => lhs; unfold splC
        rw [if_neg (by simpa using hb), ih]
        simp
theorem split_splC (x : UInt8) : ∀ (n : Nat) (l : List UInt8), l.length ≤ n → splitK [x] 0 (count l [x]) l = splC x l
  | n, l, hn => by
    have hge := index_ge l [x]
    have h1 : index l [x] = indexByte l x := index_one l x
    by_cases hm : index l [x] = -1
    · rw [count_miss hm]
      show [l] = _
      rw [splC_miss x l (by rw [← h1]; exact hm)]
    · obtain ⟨i, hi⟩ : ∃ i : Nat, index l [x] = (i : Int) := ⟨(index l [x]).toNat, by omega⟩
      have hroom := index_room l [x] (by omega)
      simp at hroom
      cases n with
      | zero => omega
      | succ n =>
        rw [count_hit (by simp) hi, Nat.add_comm]
        unfold splitK
        rw [if_neg (by simpa using hm), hi]
        have e : ((i : Int).toNat + 0) = i := by omega
        have e2 : ((i : Int).toNat + ([x] : List UInt8).length) = i + 1 := by simp
        rw [e, e2]
        have := split_splC x n (l.drop (i + 1)) (by simp; omega)
        simp only [List.length_cons, List.length_nil, Nat.zero_add] at *
        rw [this, splC_hit x l i (by rw [← h1]; exact hi)]
theorem count_splC (x : UInt8) : ∀ (n : Nat) (l : List UInt8), l.length ≤ n → count l [x] + 1 = (splC x l).length
  | n, l, hn => by
    have hge := index_ge l [x]
    have h1 : index l [x] = indexByte l x := index_one l x
    by_cases hm : index l [x] = -1
    · rw [count_miss hm, splC_miss x l (by rw [← h1]; exact hm)]; rfl
    · obtain ⟨i, hi⟩ : ∃ i : Nat, index l [x] = (i : Int) := ⟨(index l [x]).toNat, by omega⟩
      have hroom := index_room l [x] (by omega)
      simp at hroom
      cases n with
      | zero => omega
      | succ n =>
        have := count_splC x n (l.drop (i + 1)) (by simp; omega)
        rw [count_hit (by simp) hi, splC_hit x l i (by rw [← h1]; exact hi)]
        simp only [List.length_cons, List.length_nil, Nat.zero_add] at *
        omega
theorem splitB_splC (s : ByteArray) : (splitB ⟨#[47]⟩ 0 (countB s ⟨#[47]⟩) s).map (·.data.toList) = splC 47 s.data.toList := by
  rw [splitB_data]
  exact split_splC 47 _ _ (Nat.le_refl _)
theorem countB_splC (s : ByteArray) : countB s ⟨#[47]⟩ + 1 = (splC 47 s.data.toList).length := count_splC 47 _ _ (Nat.le_refl _)

/-- strings.Split at a slash. -/
theorem split_slash (s : ByteArray) (m : Int) (w : World) (hs : s.size ≤ 100) (hm : w.cell? ⟨22, 0, none⟩ = some (.int .i64 m)) :
    Calls Tryz.prog 29 #[.string s, .string ⟨#[47]⟩] w fun e w' => ∃ L : List ByteArray, L.map (·.data.toList) = splC 47 s.data.toList ∧ (∀ p ∈ L, p.size ≤ 100) ∧ L.length ≤ 101 ∧ e = .returned (.slice (some ⟨w.heap.size, 0, none⟩) L.length L.length) ∧ w' = w.alloc (.cells (L.map Value.string).toArray 9) := by
  refine (Tryz.strings_Split s ⟨#[47]⟩ m w (by omega) hm (by decide)).mono ?_
  rintro e w' ⟨rfl, rfl⟩
  have h1 := splitB_splC s
  have h2 := countB_splC s
  have hl := splC_len 47 s.data.toList
  rw [size_len] at hl
  refine ⟨_, h1, ?_, ?_, ?_, rfl⟩
  · intro p hp
    have := hl.1 p.data.toList (by rw [← h1]; exact List.mem_map_of_mem hp)
    rw [size_len] at this
    omega
  · have := congrArg List.length h1
    rw [List.length_map] at this
    omega
  · have := congrArg List.length h1
    rw [List.length_map] at this
    rw [this, ← h2]

/-- Names, plainly. -/
def elB (c : UInt8) : Bool := markB c || decide (c = 95) || decide (c = 46)
def elOk (l : List UInt8) : Bool := !l.isEmpty && !decide (l.head? = some 46) && !decide (l.getLast? = some 46) && l.all elB
def nameOk (l : List UInt8) : Bool := decide (l.length ≤ 60) && (splC 47 l).all elOk
def nameNo (l : List UInt8) : Int := if nameOk l = true then 0 else 4

theorem last_at {s : ByteArray} (h : 0 < s.size) : s.data.toList.getLast? = some (s[s.size - 1]) := by
  rw [List.getLast?_eq_getElem?, size_len, List.getElem?_eq_getElem (by rw [size_len]; omega)]
  rfl
theorem elOk_empty {s : ByteArray} (h : s.size = 0) : elOk s.data.toList = false := by rw [nil_of_size h]; rfl
theorem elOk_first {s : ByteArray} (h : 0 < s.size) (hd : s[0] = 46) : elOk s.data.toList = false := by
  rw [elOk, head_at h, hd]; simp
theorem elOk_last {s : ByteArray} (h : 0 < s.size) (hd : s[s.size - 1] = 46) : elOk s.data.toList = false := by
  rw [elOk, last_at h, hd]; simp
theorem elOk_byte {s : ByteArray} (k : Nat) (h : k < s.size) (hd : elB s[k] = false) : elOk s.data.toList = false := by
  have : s.data.toList.all elB = false := by
    rw [← Bool.not_eq_true]
    intro hh
    have := List.all_eq_true.1 hh s[k] (List.getElem_mem (l := s.data.toList) (n := k) (by rw [size_len]; exact h))
    rw [hd] at this
    cases this
  rw [elOk, this, Bool.and_false]
theorem elOk_yes {s : ByteArray} (h : 0 < s.size) (h0 : s[0] ≠ 46) (h1 : s[s.size - 1] ≠ 46) (ha : s.data.toList.all elB = true) : elOk s.data.toList = true := by
  rw [elOk, head_at h, last_at h, ha]
  have hne : s.data.toList.isEmpty = false := by
    rw [List.isEmpty_eq_false_iff]
    intro e
    have := size_len s
    rw [e] at this
    simp at this
    omega
  simp [hne, h0, h1]
theorem u8_dot {c : UInt8} (h : c = 46) : ((c.toNat : Int) == 46) = true := by subst h; rfl
theorem u8_dot_no {c : UInt8} (h : c ≠ 46) : ((c.toNat : Int) == 46) = false := by
  simp only [beq_eq_false_iff_ne, ne_eq]
  intro e
  exact h (UInt8.toNat_inj.1 (by show c.toNat = 46; omega))

theorem isElementByte_B (c : UInt8) (w : World) : Calls Tryz.prog 51 #[.int .u8 c.toNat] w fun e w' => e = .returned (.bool (elB c)) ∧ w' = w := by
  have h95 : ((c.toNat : Int) == 95) = decide (c = 95) := by
    rw [Bool.eq_iff_iff]
    simp only [decide_eq_true_eq, beq_iff_eq]
    exact ⟨fun e => UInt8.toNat_inj.1 (by show c.toNat = 95; omega), fun e => by subst e; rfl⟩
  have h46 : ((c.toNat : Int) == 46) = decide (c = 46) := by
    rw [Bool.eq_iff_iff]
    simp only [decide_eq_true_eq, beq_iff_eq]
    exact ⟨fun e => UInt8.toNat_inj.1 (by show c.toNat = 46; omega), fun e => by subst e; rfl⟩
  have HE : Hid (elB c = (markB c || decide (c = 95) || decide (c = 46))) := rfl
  generalize decide (c = 95) = b1 at *
  generalize decide (c = 46) = b2 at *
  go_enter Tryz.func51, Tryz.ntmps51
  go_wp2_with fail
  refine (isMarkByte_B c _).mono ?_
  rintro e w' ⟨rfl, rfl⟩
  generalize markB c = b0 at *
  cases b0 <;> cases b1 <;> cases b2
  all_goals
    go_wp2
    go_ret
    exact ⟨by rw [HE.out]; rfl, rfl⟩

/-- The variables that CheckName reads. -/
structure NameW (ad : Nat → Addr) (m : Int) (w : World) : Prop where
  v : VerW (ad 0) (ad 4) m w
  s : Sent ad w
  dot : ∃ x, w.cell? ⟨20, 0, none⟩ = some (.iface 142 x)
theorem NameW.below {ad : Nat → Addr} {m : Int} {w w' : World} (h : NameW ad m w) (hb : Below w.heap.size w w') : NameW ad m w' where
  v := h.v.below hb
  s := h.s.below hb
  dot := by obtain ⟨x, e⟩ := h.dot; exact ⟨x, cell_below hb e⟩

theorem checkElement_walk (s : ByteArray) (w : World) (ad : Nat → Addr) (m : Int) (hs : s.size ≤ 1099511627776) (hW : NameW ad m w) :
    Calls Tryz.prog 30 #[.string s] w fun e w' => ((elOk s.data.toList = true ∧ e = .returned .nilIface) ∨ (elOk s.data.toList = false ∧ ∃ x, e = .returned (.iface 142 x))) ∧ w' = w := by
  obtain ⟨x1, e1⟩ := hW.v.empty
  obtain ⟨x2, e2⟩ := hW.dot
  obtain ⟨x3, e3⟩ := hW.v.byte
  clear hW
  by_cases h0 : s.size = 0
  · have hb := str_empty h0
    have HN : Hid (elOk s.data.toList = false) := elOk_empty h0
    clear h0
    go_enter Tryz.func30, Tryz.ntmps30
    go_wp2
    go_ret
    exact ⟨Or.inr ⟨HN.out, _, rfl⟩, rfl⟩
  · have hb := str_nonempty h0
    have hpos : 0 < s.size := by omega
    clear h0
    by_cases hf : s[0] = 46
    · have hf' := u8_dot hf
      have HN : Hid (elOk s.data.toList = false) := elOk_first hpos hf
      clear hf
      go_enter Tryz.func30, Tryz.ntmps30
      go_wp2
      go_ret
      exact ⟨Or.inr ⟨HN.out, _, rfl⟩, rfl⟩
    · have hf' := u8_dot_no hf
      by_cases hl : s[s.size - 1] = 46
      · have hl' := u8_dot hl
        have HN : Hid (elOk s.data.toList = false) := elOk_last hpos hl
        clear hf hl
        go_enter Tryz.func30, Tryz.ntmps30
        go_wp2
        go_ret
        exact ⟨Or.inr ⟨HN.out, _, rfl⟩, rfl⟩
      · have hl' := u8_dot_no hl
        have HF : Hid (s[0] ≠ 46) := hf
        have HL : Hid (s[s.size - 1] ≠ 46) := hl
        clear hf hl
        go_enter Tryz.func30, Tryz.ntmps30
        go_wp2
        go_loop [21] (fun i => ∃ k : Nat, k ≤ s.size ∧ i = .int .i64 k ∧ Hid ((s.data.toList.take k).all elB = true)) (fun i => s.size - (RowKit.intOf i).toNat)
        case atStart => exact ⟨0, Nat.zero_le _, rfl, rfl⟩
        case round =>
          obtain ⟨k, hk, rfl, HN⟩ := hrel
          by_cases hlt : k < s.size
          · have HT : Hid (s.data.toList.take (k + 1) = s.data.toList.take k ++ [s[k]]) := take_snoc s k hlt
            go_wp2_with fail
            refine (isElementByte_B s[k] _).mono ?_
            rintro e w' ⟨rfl, rfl⟩
            by_cases hc : elB s[k] = true
            · have HN' : Hid ((s.data.toList.take (k + 1)).all elB = true) := by
                show _ = _
                rw [HT.out, List.all_append, HN.out]
                simp only [List.all_cons, List.all_nil, Bool.and_true, Bool.true_and]
                exact hc
              rw [hc]
              clear hc
              go_wp2
              go_round
              case rel => exact ⟨k + 1, by omega, by go_num, HN'⟩
              case measure => simp [RowKit.intOf]; omega
            · have hc : elB s[k] = false := by simpa using hc
              have HR : Hid (elOk s.data.toList = false) := elOk_byte k hlt hc
              rw [hc]
              clear hc
              go_wp2
              go_ret
              exact ⟨Or.inr ⟨HR.out, _, rfl⟩, rfl⟩
          · have HR : Hid (elOk s.data.toList = true) := by
              show _ = _
              have ht : s.data.toList.take k = s.data.toList := List.take_of_length_le (by rw [size_len]; omega)
              have ha := HN.out
              rw [ht] at ha
              exact elOk_yes hpos HF.out HL.out ha
            go_wp2
            go_ret
            exact ⟨Or.inl ⟨HR.out, rfl⟩, rfl⟩
end Go.Proofs.YtoeolaienpopfaaGreatDoor
