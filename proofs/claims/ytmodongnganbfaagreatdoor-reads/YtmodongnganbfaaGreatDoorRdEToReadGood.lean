/- Replies: the document's size: a byte of a chunk's size. -/
import Derived.Test.YtmodongnganbfaaGreatDoorRdBaseToRdD
import Derived.Test.YtmodongnganbfaaGreatDoorReadMath
namespace Go.Proofs.YtmodongnganbfaaGreatDoor.Rep
open Go.RowKit Go.Proofs.YtmodongnganbfaaGreatDoor Go.Proofs.YtmodongnganbfaaGreatDoor.Sha
theorem hexI_le (n : Nat) : hexI n ≤ 15 := by
  unfold hexI
  split
  · omega
  · split
    · omega
    · split <;> omega
set_option maxHeartbeats 2000000 in
set_option maxRecDepth 100000 in
theorem size_walk (mb limit : Nat) (m : Mc) (c : UInt8) (w : World) (h : DM mb limit m w) (hz : m.size ≤ 1000000000) (hst : m.start ≤ 1000) :
    Calls Tryz.prog 22 #[.pointer (some ⟨mb, 0, none⟩), .int .u8 c.toNat] w fun e w' => e = .returned (.tuple #[]) ∧ Stepped mb limit (sizeByte m c) w' ∧ Only (· = mb) w w' := by
  obtain ⟨nv, vv, last, fr, tot, hR, hN, hV, n1, n2, n3, hP⟩ := h.ex
  have c0 : w.cell? ⟨mb, 0, none⟩ = some (.int .i64 (m.at' : Int)) := hR.cell 0 _ rfl
  have c1 : w.cell? ⟨mb, 1, none⟩ = some (.int .i64 (m.thn : Int)) := hR.cell 1 _ rfl
  have c4 : w.cell? ⟨mb, 4, none⟩ = some (.int .i64 (m.start : Int)) := hR.cell 4 _ rfl
  have c11 : w.cell? ⟨mb, 11, none⟩ = some (.int .i64 (m.size : Int)) := hR.cell 11 _ rfl
  have f0 := hR.fro 0
  have f1 := hR.fro 1
  have f4 := hR.fro 4
  have f11 := hR.fro 11
  have hxo := hexI_of c
  have hc59 : c = 59 ↔ c.toNat = 59 := ⟨fun e => by rw [e]; rfl, fun e => UInt8.toNat_inj.1 (by rw [e]; rfl)⟩
  have hc13 : c = 13 ↔ c.toNat = 13 := ⟨fun e => by rw [e]; rfl, fun e => UInt8.toNat_inj.1 (by rw [e]; rfl)⟩
  have hn := c.toNat_lt
  obtain ⟨n, en⟩ : ∃ n, c.toNat = n := ⟨_, rfl⟩
  rw [en] at hxo hc59 hc13 hn ⊢
  clear en
  by_cases hA : (hexOf c).isSome ∧ m.start < 6
  · obtain ⟨v, hv'⟩ := Option.isSome_iff_exists.1 hA.1
    have hx : hexI n = (v : Int) := by rw [hxo, hv']
    have hv : sizeByte m c = some { m with size := 16 * m.size + v, start := m.start + 1 } := by unfold sizeByte; rw [if_pos hA, hv']; rfl
    have hvl : (v : Int) ≤ 15 := by rw [← hx]; exact hexI_le n
    have h6 : (m.start : Int) < 6 := by have := hA.2; omega
    clear hxo hc59 hc13 hA hv'
    rw [hv]
    have HR : Hid (Stepped mb limit (some { m with size := 16 * m.size + v, start := m.start + 1 }) ((w.setCell ⟨mb, 11, none⟩ (.int .i64 (16 * (m.size : Int) + (v : Int)))).setCell ⟨mb, 4, none⟩ (.int .i64 ((m.start : Int) + 1)))) := DM.mk' (m := m) (nv := nv) (vv := vv) (last := last) (fr := fr) (tot := tot) (by have q := ((hR.set 11 (.int .i64 (16 * (m.size : Int) + (v : Int))) (by simp [encM])).set 4 (.int .i64 ((m.start : Int) + 1)) (by simp [encM])); exact q) rfl hN hV n1 n2 n3 (((Only.refl _ w).trans (Only.set (S := (· = mb)) _ 11 _ rfl)).trans (Only.set (S := (· = mb)) _ 4 _ rfl)) hP
    have HK : Hid (Only (· = mb) w ((w.setCell ⟨mb, 11, none⟩ (.int .i64 (16 * (m.size : Int) + (v : Int)))).setCell ⟨mb, 4, none⟩ (.int .i64 ((m.start : Int) + 1)))) := ((Only.refl _ w).trans (Only.set (S := (· = mb)) _ 11 _ rfl)).trans (Only.set (S := (· = mb)) _ 4 _ rfl)
    clear hv hR hN hV hP n3 h
    go_enter Tryz.func22, Tryz.ntmps22
    go_wp2_with fail
    refine (hex_nat n w hn).mono ?_
    rintro e w' ⟨rfl, rfl⟩
    rw [hx]
    go_wp2
    go_end0
    exact ⟨rfl, HR.out, HK.out⟩
  · have hA' : hexI n = -1 ∨ (0 ≤ hexI n ∧ 6 ≤ m.start) := by
      cases hh : hexOf c with
      | none => left; rw [hxo, hh]
      | some v => right; rw [hxo, hh]; exact ⟨Int.natCast_nonneg v, by rw [hh] at hA; simp at hA; omega⟩
    clear hxo
    by_cases hB : 0 < m.start ∧ c = 59
    · have hv : sizeByte m c = some { m with at' := 9 } := by unfold sizeByte; rw [if_neg hA, if_pos hB]
      have hn59 : n = 59 := hc59.1 hB.2
      have hs : (0 : Int) < (m.start : Int) := by have := hB.1; omega
      have hx : hexI n = -1 := by rw [hn59]; rfl
      have b59 : ((n : Int) == 59) = true := by rw [hn59]; rfl
      clear hA hB hA' hc59 hc13 hn59
      rw [hv]
      have HR : Hid (Stepped mb limit (some { m with at' := 9 }) (w.setCell ⟨mb, 0, none⟩ (.int .i64 9))) := DM.mk' (m := m) (nv := nv) (vv := vv) (last := last) (fr := fr) (tot := tot) (by have q := (hR.set 0 (.int .i64 9) (by simp [encM])); exact q) rfl hN hV n1 n2 n3 ((Only.refl _ w).trans (Only.set (S := (· = mb)) _ 0 _ rfl)) hP
      have HK : Hid (Only (· = mb) w (w.setCell ⟨mb, 0, none⟩ (.int .i64 9))) := (Only.refl _ w).trans (Only.set (S := (· = mb)) _ 0 _ rfl)
      clear hv hR hN hV hP n3 h
      go_enter Tryz.func22, Tryz.ntmps22
      go_wp2_with fail
      refine (hex_nat n w hn).mono ?_
      rintro e w' ⟨rfl, rfl⟩
      rw [hx]
      go_wp2
      go_end0
      exact ⟨rfl, HR.out, HK.out⟩
    · by_cases hC : 0 < m.start ∧ c = 13
      · have hv : sizeByte m c = some { m with at' := 4, thn := 10 } := by unfold sizeByte; rw [if_neg hA, if_neg hB, if_pos hC]
        have hn13 : n = 13 := hc13.1 hC.2
        have hs : (0 : Int) < (m.start : Int) := by have := hC.1; omega
        have hx : hexI n = -1 := by rw [hn13]; rfl
        have b59 : ((n : Int) == 59) = false := by rw [hn13]; rfl
        have b13 : ((n : Int) == 13) = true := by rw [hn13]; rfl
        clear hA hB hC hA' hc59 hc13 hn13
        rw [hv]
        have HR : Hid (Stepped mb limit (some { m with at' := 4, thn := 10 }) ((w.setCell ⟨mb, 0, none⟩ (.int .i64 4)).setCell ⟨mb, 1, none⟩ (.int .i64 10))) := DM.mk' (m := m) (nv := nv) (vv := vv) (last := last) (fr := fr) (tot := tot) (by have q := ((hR.set 0 (.int .i64 4) (by simp [encM])).set 1 (.int .i64 10) (by simp [encM])); exact q) rfl hN hV n1 n2 n3 (((Only.refl _ w).trans (Only.set (S := (· = mb)) _ 0 _ rfl)).trans (Only.set (S := (· = mb)) _ 1 _ rfl)) hP
        have HK : Hid (Only (· = mb) w ((w.setCell ⟨mb, 0, none⟩ (.int .i64 4)).setCell ⟨mb, 1, none⟩ (.int .i64 10))) := ((Only.refl _ w).trans (Only.set (S := (· = mb)) _ 0 _ rfl)).trans (Only.set (S := (· = mb)) _ 1 _ rfl)
        clear hv hR hN hV hP n3 h
        go_enter Tryz.func22, Tryz.ntmps22
        go_wp2_with fail
        refine (hex_nat n w hn).mono ?_
        rintro e w' ⟨rfl, rfl⟩
        rw [hx]
        go_wp2
        go_end0
        exact ⟨rfl, HR.out, HK.out⟩
      · have hv : sizeByte m c = none := by unfold sizeByte; rw [if_neg hA, if_neg hB, if_neg hC]
        obtain ⟨x, hx⟩ : ∃ x, hexI n = x := ⟨_, rfl⟩
        rw [hx] at hA'
        by_cases hs0 : m.start = 0
        · have hs : ¬ (0 : Int) < (m.start : Int) := by omega
          have hx1 : ¬ (0 : Int) ≤ x := by omega
          clear hA hB hC hA' hc59 hc13
          rw [hv]
          have HR : Hid (Stepped mb limit none (w.setCell ⟨mb, 0, none⟩ (.int .i64 15))) := Stepped.broke hR (part_ints hP)
          have HK : Hid (Only (· = mb) w (w.setCell ⟨mb, 0, none⟩ (.int .i64 15))) := (Only.refl _ w).trans (Only.set (S := (· = mb)) _ 0 _ rfl)
          clear hv hR hN hV hP n3 h
          go_enter Tryz.func22, Tryz.ntmps22
          go_wp2_with fail
          refine (hex_nat n w hn).mono ?_
          rintro e w' ⟨rfl, rfl⟩
          rw [hx]
          go_wp2
          go_end0
          exact ⟨rfl, HR.out, HK.out⟩
        · have hs : (0 : Int) < (m.start : Int) := by omega
          have b59 : ((n : Int) == 59) = false := by
            rw [beq_eq_false_iff_ne]; intro e; exact hB ⟨by omega, hc59.2 (by omega)⟩
          have b13 : ((n : Int) == 13) = false := by
            rw [beq_eq_false_iff_ne]; intro e; exact hC ⟨by omega, hc13.2 (by omega)⟩
          rcases hA' with hx1 | ⟨hx1, h6⟩
          · have hx0 : ¬ (0 : Int) ≤ x := by omega
            clear hA hB hC hc59 hc13 hx1
            rw [hv]
            have HR : Hid (Stepped mb limit none (w.setCell ⟨mb, 0, none⟩ (.int .i64 15))) := Stepped.broke hR (part_ints hP)
            have HK : Hid (Only (· = mb) w (w.setCell ⟨mb, 0, none⟩ (.int .i64 15))) := (Only.refl _ w).trans (Only.set (S := (· = mb)) _ 0 _ rfl)
            clear hv hR hN hV hP n3 h
            go_enter Tryz.func22, Tryz.ntmps22
            go_wp2_with fail
            refine (hex_nat n w hn).mono ?_
            rintro e w' ⟨rfl, rfl⟩
            rw [hx]
            go_wp2
            go_end0
            exact ⟨rfl, HR.out, HK.out⟩
          · have h6' : ¬ (m.start : Int) < 6 := by omega
            clear hA hB hC hc59 hc13
            rw [hv]
            have HR : Hid (Stepped mb limit none (w.setCell ⟨mb, 0, none⟩ (.int .i64 15))) := Stepped.broke hR (part_ints hP)
            have HK : Hid (Only (· = mb) w (w.setCell ⟨mb, 0, none⟩ (.int .i64 15))) := (Only.refl _ w).trans (Only.set (S := (· = mb)) _ 0 _ rfl)
            clear hv hR hN hV hP n3 h
            go_enter Tryz.func22, Tryz.ntmps22
            go_wp2_with fail
            refine (hex_nat n w hn).mono ?_
            rintro e w' ⟨rfl, rfl⟩
            rw [hx]
            go_wp2
            go_end0
            exact ⟨rfl, HR.out, HK.out⟩
end Go.Proofs.YtmodongnganbfaaGreatDoor.Rep
/- Replies: the document's among. -/
namespace Go.Proofs.YtmodongnganbfaaGreatDoor.Rep
open Go.RowKit Go.Proofs.YtmodongnganbfaaGreatDoor Go.Proofs.YtmodongnganbfaaGreatDoor.Sha
theorem size_len (s : ByteArray) : s.data.toList.length = s.size := by simp
theorem u8_beq (c d : UInt8) : ((c.toNat : Int) == (d.toNat : Int)) = (c == d) := by
  rw [Bool.eq_iff_iff]
  simp only [beq_iff_eq]
  exact ⟨fun e => UInt8.toNat_inj.1 (by omega), fun e => by rw [e]⟩
theorem contains_snoc (l : List UInt8) (d c : UInt8) : (l ++ [d]).contains c = (l.contains c || d == c) := by
  rw [Bool.eq_iff_iff]; simp; constructor <;> (rintro (h | h) <;> simp [h])

/-- Is c a byte of the text? -/
def hasB (l : List UInt8) (c : UInt8) : Bool := l.contains c
theorem among_walk (c : UInt8) (s : ByteArray) (w : World) (hs : s.size ≤ 1099511627776) :
    Calls Tryz.prog 33 #[.int .u8 c.toNat, .string s] w fun e w' => e = .returned (.bool (hasB s.data.toList c)) ∧ w' = w := by
  go_enter Tryz.func33, Tryz.ntmps33
  go_wp2
  go_loop [5] (fun i => ∃ k : Nat, k ≤ s.size ∧ i = .int .i64 k ∧ Hid (hasB (s.data.toList.take k) c = false)) (fun i => s.size - (intOf i).toNat)
  case atStart => exact ⟨0, Nat.zero_le _, rfl, rfl⟩
  case round =>
    obtain ⟨k, hk, rfl, HN⟩ := hrel
    by_cases hlt : k < s.size
    · have HT : Hid (s.data.toList.take (k + 1) = s.data.toList.take k ++ [s[k]]) := take_snoc s k hlt
      have hb := u8_beq s[k] c
      by_cases hc : (s[k] == c) = true
      · rw [hc] at hb
        have HR : Hid (hasB s.data.toList c = true) := by
          show _ = _
          rw [hasB, ← (beq_iff_eq.1 hc), List.contains_iff_mem]
          exact List.getElem_mem (l := s.data.toList) (n := k) (by rw [size_len]; exact hlt)
        clear hc
        go_wp2
        go_ret
        exact ⟨by rw [HR.out]; rfl, rfl⟩
      · have hc : (s[k] == c) = false := by simpa using hc
        rw [hc] at hb
        have HN' : Hid (hasB (s.data.toList.take (k + 1)) c = false) := by
          show _ = _
          have hn : (s.data.toList.take k).contains c = false := HN.out
          rw [hasB, HT.out, contains_snoc, hn, hc]; rfl
        clear hc
        go_wp2
        go_round
        case rel => exact ⟨k + 1, by omega, by go_num, HN'⟩
        case measure => simp [intOf]; omega
    · have HR : Hid (hasB s.data.toList c = false) := by
        show _ = _
        have ht : s.data.toList.take k = s.data.toList := List.take_of_length_le (by rw [size_len]; omega)
        rw [← ht]; exact HN.out
      go_wp2
      go_ret
      exact ⟨by rw [HR.out]; rfl, rfl⟩

theorem ten_has (c : UInt8) : hasB [48, 49, 50, 51, 52, 53, 54, 55, 56, 57] c = isDigit c := by
  have all : ∀ n : Fin 256, hasB [48, 49, 50, 51, 52, 53, 54, 55, 56, 57] (UInt8.ofNat n.val) = isDigit (UInt8.ofNat n.val) := by decide +kernel
  have h := all ⟨c.toNat, c.toNat_lt⟩
  simpa using h
theorem digit_walk (c : UInt8) (w : World) : Calls Tryz.prog 33 #[.int .u8 c.toNat, .string ⟨#[48, 49, 50, 51, 52, 53, 54, 55, 56, 57]⟩] w fun e w' => e = .returned (.bool (isDigit c)) ∧ w' = w := by
  rw [← ten_has c]
  exact among_walk c ⟨#[48, 49, 50, 51, 52, 53, 54, 55, 56, 57]⟩ w (by decide)
end Go.Proofs.YtmodongnganbfaaGreatDoor.Rep
/- Replies: what holds of the document's machine behind every byte (bounds). -/
namespace Go.Proofs.YtmodongnganbfaaGreatDoor.Rep
structure Good (limit : Nat) (m : Mc) : Prop where
  lim : limit ≤ 1000000
  a : m.at' ≤ 14
  u : m.used ≤ 400
  t : m.at' = 4 → m.thn = 5 ∨ m.thn = 8 ∨ m.thn = 10 ∨ m.thn = 14
  tl : m.thn ≤ 14
  s0 : m.at' = 0 → m.start < 9 ∧ m.status = 0
  s1 : m.at' = 1 → m.start < 3 ∧ (m.start = 0 → m.status = 0) ∧ (m.start ≤ 1 → m.status ≤ 5) ∧ (m.start ≤ 2 → m.status ≤ 59)
  st : m.status ≤ 599
  nm : m.name.length ≤ 400
  nu : m.at' = 6 → m.name.length ≤ m.used
  vl : m.value.length ≤ 400
  vu : m.at' = 7 → m.value.length ≤ m.used
  fl : m.fields.length ≤ 400
  fu : m.headed = false → m.fields.length ≤ m.used
  h3 : m.at' ≤ 3 → m.headed = false ∧ m.tail = false
  h4 : m.at' = 4 ∧ (m.thn = 5 ∨ m.thn = 14) → m.headed = m.tail
  h4' : m.at' = 4 ∧ (m.thn = 8 ∨ m.thn = 10) → m.headed = true
  h5 : 5 ≤ m.at' ∧ m.at' ≤ 7 → m.headed = m.tail
  h8 : 8 ≤ m.at' → m.headed = true
  z8 : m.at' = 8 → m.start ≤ 6 ∧ m.size < 16 ^ m.start
  zl : m.size ≤ 16777216
  al : m.all ≤ limit
  bl : m.body.length ≤ limit
  bh : m.headed = false → m.body = [] ∧ m.all = 0 ∧ m.size = 0
  b10 : m.at' = 10 → m.body.length + m.size = m.all ∧ 1 ≤ m.size
  b8 : m.at' = 8 ∨ m.at' = 9 ∨ m.at' = 11 ∨ (m.at' = 4 ∧ (m.thn = 8 ∨ m.thn = 10)) → m.body.length = m.all
  b12 : m.at' = 12 → m.body.length + m.size ≤ limit ∧ 1 ≤ m.size
theorem good_new {limit : Nat} (h : limit ≤ 1000000) : Good limit Mc.new := by
  constructor <;> first | exact h | simp [Mc.new]
theorem done_good {limit : Nat} {m m' : Mc} (g : Good limit m) (hh : m.headed = true) (h : done m = some m') : Good limit m' := by
  unfold done at h
  split at h
  · cases h
  · injection h with h
    subst h
    have := g.lim; have := g.u; have := g.tl; have := g.st; have := g.nm; have := g.vl; have := g.fl; have := g.zl; have := g.al; have := g.bl
    constructor <;> simp_all
theorem sized_good {limit : Nat} {m m' : Mc} (g : Good limit m) (hh : m.headed = true) (hb : m.body.length = m.all) (h : sized limit m = some m') : Good limit m' := by
  have := g.lim; have := g.u; have := g.tl; have := g.st; have := g.nm; have := g.vl; have := g.fl; have := g.zl; have := g.al; have := g.bl
  unfold sized at h
  split at h
  · cases h
  · split at h
    · injection h with h
      subst h
      constructor <;> simp_all
    · injection h with h
      subst h
      constructor <;> simp_all <;> omega
theorem numOf_le : ∀ (l : Bytes) (n : Nat), l.all isDigit = true → l.foldl (fun n c => 10 * n + (c.toNat - 48)) n + 1 ≤ (n + 1) * 10 ^ l.length
  | [], n, _ => by simp
  | c :: l, n, h => by
    rw [List.all_cons, Bool.and_eq_true] at h
    have hc : c.toNat ≤ 57 := by have := h.1; unfold isDigit at this; simp at this; exact this.2
    have := numOf_le l (10 * n + (c.toNat - 48)) h.2
    rw [List.foldl_cons]
    refine Nat.le_trans this ?_
    rw [List.length_cons, Nat.pow_succ, Nat.mul_comm (10 ^ l.length) 10, ← Nat.mul_assoc]
    exact Nat.mul_le_mul_right _ (by omega)
theorem few_lt {l : Bytes} {n : Nat} (h : few l = some n) : n < 1000000000 := by
  unfold few at h
  split at h
  · rename_i hc
    injection h with h
    simp only [Bool.and_eq_true, decide_eq_true_eq] at hc
    have := numOf_le l 0 hc.2
    have hp : 10 ^ l.length ≤ 10 ^ 9 := Nat.pow_le_pow_right (by decide) hc.1.2
    unfold numOf at h
    omega
  · cases h
theorem span_lt {l : Bytes} {s : Span} (h : span l = some s) : s.first ≤ s.last ∧ s.last < s.total ∧ s.total < 1000000000 := by
  unfold span at h
  split at h
  · split at h
    · split at h
      · split at h
        · rename_i ha hb ht
          split at h
          · rename_i hc
            injection h with h
            subst h
            exact ⟨hc.1, hc.2, few_lt ht⟩
          · cases h
        · cases h
      · cases h
    · cases h
  · cases h
theorem headed_good {limit : Nat} {m m' : Mc} (g : Good limit m) (hb : m.body = []) (ha : m.all = 0) (hz : m.size = 0) (h : headed limit m = some m') : Good limit m' := by
  have := g.lim; have := g.u; have := g.tl; have := g.st; have := g.nm; have := g.vl; have := g.fl; have := g.zl; have := g.al; have := g.bl
  unfold headed at h
  split at h
  · cases h
  · rename_i hd hx
    split at h
    · rename_i hf
      simp only [] at h
      split at h
      · injection h with h
        subst h
        constructor <;> simp_all
      · rename_i hbd
        split at h
        · injection h with h
          subst h
          constructor <;> simp_all
        · split at h
          · unfold done at h
            split at h
            · cases h
            · injection h with h
              subst h
              constructor <;> simp_all
          · rename_i n hn0 hn
            injection h with h
            subst h
            have hl : n ≤ limit := by
              unfold fits at hf
              simp [hn] at hf
              have := hf.2
              simp at hbd
              rw [hbd] at this
              simp at this
              exact this.1
            have hn1 : 1 ≤ n := by
              cases n with
              | zero => exact absurd rfl (hn0 · )
              | succ k => omega
            constructor <;> simp_all <;> omega
          · injection h with h
            subst h
            constructor <;> simp_all
    · cases h
theorem lineEnd_good {limit : Nat} {m m' : Mc} (g : Good limit m) (h4 : m.at' = 4) (h : lineEnd limit m = some m') : Good limit m' := by
  have := g.lim; have := g.u; have := g.tl; have := g.st; have := g.nm; have := g.vl; have := g.fl; have := g.zl; have := g.al; have := g.bl
  have ht := g.t h4
  have q4 := g.h4
  have q4' := g.h4'
  have qb := g.bh
  have qf := g.fu
  have q8 := g.b8
  unfold lineEnd at h
  split at h
  · rename_i e5
    injection h with h
    subst h
    constructor <;> simp_all
  · split at h
    · rename_i e5 e8
      injection h with h
      subst h
      constructor <;> simp_all
    · split at h
      · rename_i e5 e8 e10
        exact sized_good g (g.h4' ⟨h4, .inr e10⟩) (g.b8 (.inr (.inr (.inr ⟨h4, .inr e10⟩)))) h
      · split at h
        · rename_i e5 e8 e10 e14
          split at h
          · rename_i tt
            exact done_good g (by rw [g.h4 ⟨h4, .inr e14⟩]; exact tt) h
          · rename_i tt
            have hf : m.headed = false := by rw [g.h4 ⟨h4, .inr e14⟩]; simpa using tt
            exact headed_good g (g.bh hf).1 (g.bh hf).2.1 (g.bh hf).2.2 h
        · rename_i e5 e8 e10 e14
          omega
theorem first_good {limit : Nat} {m m' : Mc} {c : UInt8} (g : Good limit m) (ha : m.at' ≤ 2) (h : first m c = some m') : Good limit m' := by
  have := g.lim; have := g.u; have := g.tl; have := g.st; have := g.nm; have := g.vl; have := g.fl; have := g.zl; have := g.al; have := g.bl
  have q3 := g.h3 (by omega)
  have qb := g.bh q3.1
  have qf := g.fu
  have p0 := g.s0
  have p1 := g.s1
  unfold first at h
  split at h
  · rename_i e0
    split at h
    · injection h with h
      split at h
      · subst h
        constructor <;> simp_all
      · subst h
        constructor <;> simp_all <;> omega
    · cases h
  · split at h
    · rename_i e0 e1
      split at h
      · rename_i hd
        have hc : c.toNat ≤ 57 ∧ (m.start = 0 → c.toNat ≤ 53) := by
          simp [isDigit] at hd
          refine ⟨hd.1.2, fun e => ?_⟩
          have := hd.2
          omega
        injection h with h
        have r1 := p1 e1
        split at h
        · subst h
          constructor <;> simp_all <;> omega
        · subst h
          constructor <;> simp_all <;> omega
      · cases h
    · split at h
      · injection h with h
        subst h
        constructor <;> simp_all
      · cases h
theorem sizeByte_good {limit : Nat} {m m' : Mc} {c : UInt8} (g : Good limit m) (ha : m.at' = 8) (h : sizeByte m c = some m') : Good limit m' := by
  have := g.lim; have := g.u; have := g.tl; have := g.st; have := g.nm; have := g.vl; have := g.fl; have := g.zl; have := g.al; have := g.bl
  have q8 := g.h8 (by omega)
  have qb := g.b8
  have z8 := g.z8 ha
  unfold sizeByte at h
  split at h
  · rename_i hx
    injection h with h
    subst h
    obtain ⟨v, hv⟩ := Option.isSome_iff_exists.1 hx.1
    have hv15 : v ≤ 15 := by
      unfold hexOf at hv
      split at hv
      · rename_i q; injection hv with hv; simp [isDigit] at q; omega
      · split at hv
        · rename_i q; injection hv with hv; simp at q; omega
        · split at hv
          · rename_i q; injection hv with hv; simp at q; omega
          · cases hv
    have hz : 16 * m.size + v < 16 ^ (m.start + 1) := by rw [Nat.pow_succ]; omega
    have hp : 16 ^ (m.start + 1) ≤ 16 ^ 6 := Nat.pow_le_pow_right (by decide) hx.2
    have e16 : (16 : Nat) ^ 6 = 16777216 := by decide
    rw [hv]
    constructor <;> simp_all <;> omega
  · split at h
    · injection h with h
      subst h
      constructor <;> simp_all
    · split at h
      · injection h with h
        subst h
        constructor <;> simp_all
      · cases h
set_option maxHeartbeats 4000000 in
theorem line_good {limit : Nat} {m m' : Mc} {c : UInt8} (g : Good limit m) (hu : 1 ≤ m.used) (hnu : m.at' = 6 → m.name.length + 1 ≤ m.used) (hvu : m.at' = 7 → m.value.length + 1 ≤ m.used) (hfu : m.headed = false → m.fields.length + 1 ≤ m.used) (h : line m c = some m') : Good limit m' := by
  have := g.lim; have := g.u; have := g.tl; have := g.st; have := g.nm; have := g.vl; have := g.fl; have := g.zl; have := g.al; have := g.bl
  have q3 := g.h3
  have q5 := g.h5
  have q8 := g.h8
  have qb := g.bh
  have b8 := g.b8
  have qf := g.fu
  unfold line at h
  split at h
  · rename_i e; injection h with h; subst h; constructor <;> simp_all
  · split at h
    · rename_i e; injection h with h; subst h; constructor <;> simp_all
    · split at h
      · rename_i e; injection h with h; subst h; constructor <;> simp_all <;> omega
      · split at h
        · rename_i e; injection h with h; subst h; constructor <;> simp_all
        · split at h
          · rename_i e
            injection h with h
            split at h
            · rename_i ht
              subst h; constructor <;> simp_all
            · rename_i ht
              subst h; constructor <;> simp_all <;> omega
          · split at h
            · rename_i e; injection h with h; subst h; constructor <;> simp_all <;> omega
            · split at h
              · rename_i e; injection h with h; subst h; constructor <;> simp_all
              · split at h
                · rename_i e; injection h with h; subst h; constructor <;> simp_all
                · split at h
                  · injection h with h; subst h; exact g
                  · cases h
theorem inBody_good {limit : Nat} {m m' : Mc} {c : UInt8} (g : Good limit m) (ha : 10 ≤ m.at') (h : inBody limit m c = some m') : Good limit m' := by
  have := g.lim; have := g.u; have := g.tl; have := g.st; have := g.nm; have := g.vl; have := g.fl; have := g.zl; have := g.al; have := g.bl
  have q8 := g.h8 (by omega)
  have b8 := g.b8
  have b10 := g.b10
  have b12 := g.b12
  have za := g.a
  unfold inBody at h
  split at h
  · rename_i e
    injection h with h
    split at h
    · subst h; constructor <;> simp_all <;> omega
    · subst h; constructor <;> simp_all <;> omega
  · split at h
    · split at h
      · injection h with h; subst h; constructor <;> simp_all
      · cases h
    · split at h
      · rename_i e
        split at h
        · unfold done at h
          split at h
          · cases h
          · injection h with h
            subst h
            constructor <;> simp_all <;> omega
        · injection h with h; subst h; constructor <;> simp_all <;> omega
      · split at h
        · split at h
          · cases h
          · injection h with h; subst h; constructor <;> simp_all <;> omega
        · injection h with h; subst h; exact g
theorem used_good {limit : Nat} {m : Mc} (g : Good limit m) (h : m.used < 400) : Good limit { m with used := m.used + 1 } := by
  obtain ⟨a1, a2, a3, a4, a5, a6, a7, a8, a9, a10, a11, a12, a13, a14, a15, a16, a17, a18, a19, a20, a21, a22, a23, a24, a25, a26, a27⟩ := g
  exact ⟨a1, a2, h, a4, a5, a6, a7, a8, a9, fun e => Nat.le_succ_of_le (a10 e), a11, fun e => Nat.le_succ_of_le (a12 e), a13, fun e => Nat.le_succ_of_le (a14 e), a15, a16, a17, a18, a19, a20, a21, a22, a23, a24, a25, a26, a27⟩
/-- A byte more keeps it. -/
theorem feed_good {limit : Nat} {m m' : Mc} {c : UInt8} (g : Good limit m) (h : feed limit m c = some m') : Good limit m' := by
  unfold feed at h
  split at h
  · cases h
  · rename_i hu
    simp only [] at h
    by_cases hc : counts m = true
    · rw [if_pos hc] at h
      have hlt : m.used < 400 := by
        have : ¬ 400 ≤ m.used := fun e => hu ⟨hc, e⟩
        omega
      have g' := used_good g hlt
      have h9 : m.at' ≤ 9 := by unfold counts at hc; simp at hc; exact hc.1
      split at h
      · exact first_good g' (by assumption) h
      · rename_i e2
        split at h
        · rename_i e4
          split at h
          · exact lineEnd_good g' e4 h
          · cases h
        · rename_i e4
          split at h
          · exact sizeByte_good g' (by assumption) h
          · rename_i e8
            try rw [if_pos h9] at h
            simp only [] at e2 e4 e8
            exact line_good g' (by simp only []; omega) (fun e => by have := g.nu e; simp only []; omega) (fun e => by have := g.vu e; simp only []; omega) (fun e => by have := g.fu e; simp only []; omega) h
    · rw [if_neg hc] at h
      have hx : 10 ≤ m.at' ∨ (m.at' = 4 ∧ m.thn = 8) := by
        unfold counts at hc
        simp at hc
        by_cases q : m.at' ≤ 9
        · exact .inr (hc q)
        · left; omega
      rcases hx with hx | ⟨hx, ht⟩
      · rw [if_neg (by omega), if_neg (by omega), if_neg (by omega), if_neg (by omega)] at h
        exact inBody_good g hx h
      · rw [if_neg (by omega), if_pos hx] at h
        split at h
        · exact lineEnd_good g hx h
        · cases h
end Go.Proofs.YtmodongnganbfaaGreatDoor.Rep
