/- The reader's bytes: isBlank, isDigit, isPlain, escaped. -/
import Derived.Test.YtfngjfnakokgmaaGreatDoorBookAToTextStep
namespace Go.Proofs.YtfngjfnakokgmaaGreatDoor.Txt
open Go.RowKit Go.Proofs.YtfngjfnakokgmaaGreatDoor.Sha
theorem eq_int (c d : UInt8) : (c == d) = decide (((c.toNat : Nat) : Int) = ((d.toNat : Nat) : Int)) := by
  rw [Bool.eq_iff_iff]
  simp only [beq_iff_eq, decide_eq_true_eq]
  constructor
  · intro h; rw [h]
  · intro h; exact UInt8.toNat_inj.1 (by omega)
theorem isBlank_int (c : UInt8) : isBlank c = (decide ((c.toNat : Int) = 32) || decide ((c.toNat : Int) = 9) || decide ((c.toNat : Int) = 10) || decide ((c.toNat : Int) = 13)) := by
  unfold isBlank; rw [eq_int, eq_int, eq_int, eq_int]; rfl
theorem isDigit_int (c : UInt8) : isDigit c = (decide (48 ≤ (c.toNat : Int)) && decide ((c.toNat : Int) ≤ 57)) := by
  unfold isDigit
  congr 1 <;> (rw [Bool.eq_iff_iff]; simp only [decide_eq_true_eq]; omega)
theorem isPlain_int (c : UInt8) : isPlain c = (decide (32 ≤ (c.toNat : Int)) && decide ((c.toNat : Int) ≤ 126) && !decide ((c.toNat : Int) = 34) && !decide ((c.toNat : Int) = 92)) := by
  unfold isPlain bne
  rw [eq_int, eq_int]
  congr 1
  congr 1
  congr 1 <;> (rw [Bool.eq_iff_iff]; simp only [decide_eq_true_eq]; omega)
theorem isBlank_B (c : UInt8) (w : World) : Calls Tryz.prog 115 #[.int .u8 (c.toNat : Int)] w fun e w' => e = .returned (.bool (isBlank c)) ∧ w' = w := by
  obtain ⟨b, HB⟩ : ∃ b, Hid (isBlank c = b) := ⟨_, rfl⟩
  have HE := isBlank_int c
  rw [HB.out] at HE ⊢
  clear HB
  generalize (c.toNat : Int) = n at *
  have HE : Hid (b = _) := HE
  go_enter Tryz.func115, Tryz.ntmps115
  go_wp2
  all_goals
    go_ret
    refine ⟨?_, rfl⟩
    have HE := HE.out
    simp_all
    all_goals (try (rw [Bool.eq_iff_iff]; simp))
    all_goals (try (intros; omega))
theorem isDigit_B (c : UInt8) (w : World) : Calls Tryz.prog 125 #[.int .u8 (c.toNat : Int)] w fun e w' => e = .returned (.bool (isDigit c)) ∧ w' = w := by
  obtain ⟨b, HB⟩ : ∃ b, Hid (isDigit c = b) := ⟨_, rfl⟩
  have HE := isDigit_int c
  rw [HB.out] at HE ⊢
  clear HB
  generalize (c.toNat : Int) = n at *
  have HE : Hid (b = _) := HE
  go_enter Tryz.func125, Tryz.ntmps125
  go_wp2
  all_goals
    go_ret
    refine ⟨?_, rfl⟩
    have HE := HE.out
    simp_all
    all_goals (try (rw [Bool.eq_iff_iff]; simp))
    all_goals (try (intros; omega))
theorem isPlain_B (c : UInt8) (w : World) : Calls Tryz.prog 116 #[.int .u8 (c.toNat : Int)] w fun e w' => e = .returned (.bool (isPlain c)) ∧ w' = w := by
  obtain ⟨b, HB⟩ : ∃ b, Hid (isPlain c = b) := ⟨_, rfl⟩
  have HE := isPlain_int c
  rw [HB.out] at HE ⊢
  clear HB
  generalize (c.toNat : Int) = n at *
  have HE : Hid (b = _) := HE
  go_enter Tryz.func116, Tryz.ntmps116
  go_wp2
  all_goals
    go_ret
    refine ⟨?_, rfl⟩
    have HE := HE.out
    simp_all
    all_goals (try (rw [Bool.eq_iff_iff]; simp))
    all_goals (try (intros; omega))
end Go.Proofs.YtfngjfnakokgmaaGreatDoor.Txt
/- The reader's blanks and marks; what a byte means behind a backslash. -/
namespace Go.Proofs.YtfngjfnakokgmaaGreatDoor.Txt
open Go.RowKit Go.Proofs.YtfngjfnakokgmaaGreatDoor.Sha
theorem meant_int (c : UInt8) : (((meant c).toNat : Nat) : Int) = (if (c.toNat : Int) = 34 ∨ (c.toNat : Int) = 92 ∨ (c.toNat : Int) = 47 then (c.toNat : Int) else if (c.toNat : Int) = 110 then 10 else if (c.toNat : Int) = 116 then 9 else 0) := by
  have h1 := eq_int c 34
  have h2 := eq_int c 92
  have h3 := eq_int c 47
  have h4 := eq_int c 110
  have h5 := eq_int c 116
  unfold meant
  rw [h1, h2, h3, h4, h5]
  have e1 : (((34 : UInt8).toNat : Nat) : Int) = 34 := rfl
  have e2 : (((92 : UInt8).toNat : Nat) : Int) = 92 := rfl
  have e3 : (((47 : UInt8).toNat : Nat) : Int) = 47 := rfl
  have e4 : (((110 : UInt8).toNat : Nat) : Int) = 110 := rfl
  have e5 : (((116 : UInt8).toNat : Nat) : Int) = 116 := rfl
  rw [e1, e2, e3, e4, e5]
  simp only [Bool.or_eq_true, decide_eq_true_eq, or_assoc]
  split
  · rfl
  · split
    · rfl
    · split <;> rfl
theorem escaped_B (c : UInt8) (w : World) : Calls Tryz.prog 124 #[.int .u8 (c.toNat : Int)] w fun e w' => e = .returned (.int .u8 ((meant c).toNat : Int)) ∧ w' = w := by
  obtain ⟨b, HB⟩ : ∃ b : Int, Hid (((meant c).toNat : Int) = b) := ⟨_, rfl⟩
  have HE := meant_int c
  rw [HB.out] at HE ⊢
  clear HB
  generalize (c.toNat : Int) = n at *
  obtain ⟨P, HP⟩ : ∃ P : Prop, Hid (P = (b = (if n = 34 ∨ n = 92 ∨ n = 47 then n else if n = 110 then 10 else if n = 116 then 9 else 0))) := ⟨_, rfl⟩
  rw [← HP.out] at HE
  go_enter Tryz.func124, Tryz.ntmps124
  go_wp2
  all_goals
    go_ret
    refine ⟨?_, rfl⟩
    rw [HP.out] at HE
    simp_all
section
variable {rb : Nat} {s : ByteArray} {a : Nat} {bad : Bool} {w : World}
/-- How many bytes the reader has taken. -/
def atOf (rb : Nat) (w : World) : Nat := match w.cell? ⟨rb, 1, none⟩ with
  | some v => (intOf v).toNat
  | none => 0
theorem RD.atOf (h : RD rb s a bad w) : atOf rb w = a := by unfold Txt.atOf; rw [h.c1]; simp [intOf]
theorem seen_blank (h : isBlank (seen s a bad) = true) : bad = false ∧ a < s.size ∧ ∃ c, isBlank c = true ∧ s.data.toList.drop a = c :: s.data.toList.drop (a + 1) := by
  have hc : seen s a bad ≠ 0 := by intro e; rw [e] at h; revert h; decide
  obtain ⟨h1, h2, h3⟩ := seen_drop (s := s) (a := a) (bad := bad) _ hc rfl
  exact ⟨h1, h2, _, h, h3⟩
/-- What is left where no blank is seen. -/
theorem skip_stay (h : isBlank (seen s a false) = false) : skip (s.data.toList.drop a) = s.data.toList.drop a := by
  rcases Nat.lt_or_ge a s.size with hl | hl
  · have hl' : a < s.data.toList.length := by simpa using hl
    rw [List.drop_eq_getElem_cons hl']
    refine skip_cons_other _ ?_
    have e : seen s a false = s.data.toList[a] := by
      simp only [seen, List.getD_eq_getElem?_getD, List.getElem?_eq_getElem hl']; rfl
    rw [← e]; exact h
  · have e : s.data.toList.drop a = [] := List.drop_eq_nil_of_le (by simpa using hl)
    rw [e]; rfl
/-- The blanks are taken. -/
theorem blanks_walk (h : RD rb s a bad w) (hs : s.size ≤ 140737488355328) :
    Calls Tryz.prog 100 #[.pointer (some ⟨rb, 0, none⟩)] w fun e w' => e = .returned (.tuple #[]) ∧ ∃ a', RD rb s a' bad w' ∧ Only (· = rb) w w' ∧ (bad = false → s.data.toList.drop a' = skip (s.data.toList.drop a)) := by
  go_enter Tryz.func100, Tryz.ntmps100
  go_wp2
  go_loopw [] (fun wr => ∃ a' : Nat, RD rb s a' bad wr ∧ Only (· = rb) w wr ∧ Hid (bad = false → skip (s.data.toList.drop a') = skip (s.data.toList.drop a))) (fun wr => s.size - atOf rb wr)
  case atStart => exact ⟨a, h, Only.refl _ _, fun _ => rfl⟩
  case round =>
    clear h
    obtain ⟨p, hM, hK, HI⟩ := hrel
    go_wp2_with fail
    refine (see_any hM).mono ?_
    rintro e w1 ⟨rfl, h1, k1⟩
    have HH1 : Hid (RD rb s p bad w1) := h1
    have HA : Hid (atOf rb wr = p) := hM.atOf
    have HK1 : Hid (Only (· = rb) w w1) := hK.trans k1
    clear h1 k1 hM hK
    go_wp2_with fail
    refine (isBlank_B (seen s p bad) w1).mono ?_
    rintro e w2 ⟨rfl, rfl⟩
    cases hb : isBlank (seen s p bad) with
    | true =>
      obtain ⟨b1, b2, c, b3, b4⟩ := seen_blank hb
      have HL : Hid (p < s.size) := b2
      have HS : Hid (skip (s.data.toList.drop (p + 1)) = skip (s.data.toList.drop p)) := by show _ = _; rw [b4, skip_cons_blank _ b3]
      have hp : p ≤ 140737488355328 := by omega
      clear b1 b2 b3 b4 hb
      have c1 := HH1.out.c1
      have f1 := HH1.out.fro 1
      have HH2 : Hid (RD rb s (p + 1) bad (w2.setCell ⟨rb, 1, none⟩ (.int .i64 ((p : Int) + 1)))) := HH1.out.setAt ((p : Int) + 1) (p + 1) (by omega) HL.out
      have HK2 : Hid (Only (· = rb) w (w2.setCell ⟨rb, 1, none⟩ (.int .i64 ((p : Int) + 1)))) := HK1.out.trans (Only.set _ _ _ rfl)
      go_wp2
      go_roundw
      case rel => exact ⟨p + 1, HH2.out, HK2.out, fun hb => HS.out.trans (HI.out hb)⟩
      case measure =>
        have e1 := HH2.out.atOf
        have e2 := HA.out
        have e3 := HL.out
        omega
    | false =>
      have HN : Hid (isBlank (seen s p bad) = false) := hb
      clear hb
      go_wp2
      go_end0
      refine ⟨rfl, p, HH1.out, HK1.out, fun hb => ?_⟩
      have h1 := HI.out hb
      have h2 := HN.out
      rw [hb] at h2
      rw [← h1, skip_stay h2]
end
end Go.Proofs.YtfngjfnakokgmaaGreatDoor.Txt
/- The reader's steps by what is left of the text: want, mark, word. -/
namespace Go.Proofs.YtfngjfnakokgmaaGreatDoor.Txt
open Go.RowKit Go.Proofs.YtfngjfnakokgmaaGreatDoor.Sha
/-- A step that tells what is left (none: the text is refused): a fault ahead stays a fault; with none ahead, what is left is just what the step tells, or there is a fault. -/
structure Went (rb : Nat) (s : ByteArray) (bad : Bool) (res : Option Bytes) (a' : Nat) (bd : Bool) (w w' : World) : Prop where
  rd : RD rb s a' bd w'
  only : Only (· = rb) w w'
  was : bad = true → bd = true
  yes : ∀ r, bad = false → res = some r → bd = false ∧ s.data.toList.drop a' = r
  no : bad = false → res = none → bd = true
theorem Went.trans {rb : Nat} {s : ByteArray} {bad b1 b2 : Bool} {res : Option Bytes} {f : Bytes → Option Bytes} {a1 a2 : Nat} {w w1 w2 : World} (h1 : Went rb s bad res a1 b1 w w1) (h2 : Went rb s b1 (f (s.data.toList.drop a1)) a2 b2 w1 w2) : Went rb s bad (res.bind f) a2 b2 w w2 := by
  refine ⟨h2.rd, h1.only.trans h2.only, fun hb => h2.was (h1.was hb), fun r hb hr => ?_, fun hb hr => ?_⟩
  · obtain ⟨q, hq, hr⟩ := Option.bind_eq_some_iff.1 hr
    obtain ⟨e1, e2⟩ := h1.yes q hb hq
    exact h2.yes r e1 (by rw [e2]; exact hr)
  · cases hq : res with
    | none => exact h2.was (h1.no hb hq)
    | some q =>
      obtain ⟨e1, e2⟩ := h1.yes q hb hq
      rw [hq] at hr
      exact h2.no e1 (by rw [e2]; exact hr)
section
variable {rb : Nat} {s : ByteArray} {a : Nat} {bad : Bool} {w : World}
theorem Went.stay (h : RD rb s a bad w) : Went rb s bad (some (s.data.toList.drop a)) a bad w w :=
  ⟨h, Only.refl _ _, fun hb => hb, fun r hb hr => ⟨hb, Option.some.inj hr⟩, fun _ hr => by cases hr⟩
theorem seen_eq_drop (c : UInt8) (hc : c ≠ 0) : (seen s a false = c → want c (s.data.toList.drop a) = some (s.data.toList.drop (a + 1))) ∧ (seen s a false ≠ c → want c (s.data.toList.drop a) = none) := by
  constructor
  · intro hy
    rw [(seen_drop c hc hy).2.2, want, if_pos rfl]
  · intro hy
    rcases Nat.lt_or_ge a s.data.toList.length with hl | hl
    · rw [List.drop_eq_getElem_cons hl, want, if_neg]
      intro e
      apply hy
      simp only [seen, List.getD_eq_getElem?_getD, List.getElem?_eq_getElem hl]
      exact e
    · rw [List.drop_eq_nil_of_le hl]; rfl
theorem want_went (c : UInt8) (h : RD rb s a bad w) (hW : TxtW w) (hg : 29 ≤ rb) (hc : c ≠ 0) (hs : s.size ≤ 140737488355328) :
    Calls Tryz.prog 101 #[.pointer (some ⟨rb, 0, none⟩), .int .u8 (c.toNat : Int)] w fun e w' => e = .returned (.tuple #[]) ∧ ∃ a' bd, Went rb s bad (want c (s.data.toList.drop a)) a' bd w w' := by
  by_cases hy : seen s a bad = c
  · refine (want_yes c h hc hs hy).mono ?_
    rintro e w' ⟨rfl, h', k'⟩
    have hb := (seen_drop c hc hy).1
    subst hb
    exact ⟨rfl, a + 1, false, h', k', fun hb => (by cases hb), fun r _ hr => ⟨rfl, Option.some.inj (((seen_eq_drop c hc).1 hy).symm.trans hr)⟩, fun _ hr => by rw [(seen_eq_drop c hc).1 hy] at hr; cases hr⟩
  · refine (want_no c h hW hg hy).mono ?_
    rintro e w' ⟨rfl, h', k'⟩
    refine ⟨rfl, a, true, h', k', fun _ => rfl, fun r hb hr => ?_, fun _ _ => rfl⟩
    subst hb
    rw [(seen_eq_drop c hc).2 hy] at hr; cases hr
theorem blanks_went (h : RD rb s a bad w) (hs : s.size ≤ 140737488355328) :
    Calls Tryz.prog 100 #[.pointer (some ⟨rb, 0, none⟩)] w fun e w' => e = .returned (.tuple #[]) ∧ ∃ a' bd, Went rb s bad (some (skip (s.data.toList.drop a))) a' bd w w' := by
  refine (blanks_walk h hs).mono ?_
  rintro e w' ⟨rfl, a', h', k', hr⟩
  exact ⟨rfl, a', bad, h', k', fun hb => hb, fun r hb e => ⟨hb, (hr hb).trans (Option.some.inj e)⟩, fun _ e => by cases e⟩
theorem mark_went (c : UInt8) (h : RD rb s a bad w) (hW : TxtW w) (hg : 29 ≤ rb) (hc : c ≠ 0) (hs : s.size ≤ 140737488355328) :
    Calls Tryz.prog 81 #[.pointer (some ⟨rb, 0, none⟩), .int .u8 (c.toNat : Int)] w fun e w' => e = .returned (.tuple #[]) ∧ ∃ a' bd, Went rb s bad (mark c (s.data.toList.drop a)) a' bd w w' := by
  have HH : Hid (RD rb s a bad w) := h
  have HT : Hid (TxtW w) := hW
  have HS : Hid (∀ k, k = rb → 29 ≤ k) := fun k hk => by rw [hk]; exact hg
  clear h hW
  go_enter Tryz.func81, Tryz.ntmps81
  go_wp2_with fail
  refine (blanks_went HH.out hs).mono ?_
  rintro e w1 ⟨rfl, a1, b1, h1⟩
  have H1 : Hid (Went rb s bad (some (skip (s.data.toList.drop a))) a1 b1 w w1) := h1
  have HT1 : Hid (TxtW w1) := HT.out.only h1.only HS.out
  clear h1
  go_wp2_with fail
  refine (want_went c H1.out.rd HT1.out hg hc hs).mono ?_
  rintro e w2 ⟨rfl, a2, b2, h2⟩
  have H2 : Hid (Went rb s bad ((some (skip (s.data.toList.drop a))).bind (want c)) a2 b2 w w2) := H1.out.trans h2
  clear h2
  go_wp2_with fail
  refine (blanks_went H2.out.rd hs).mono ?_
  rintro e w3 ⟨rfl, a3, b3, h3⟩
  have H3 : Hid (Went rb s bad (((some (skip (s.data.toList.drop a))).bind (want c)).bind fun l => some (skip l)) a3 b3 w w3) := H2.out.trans (f := fun l => some (skip l)) h3
  clear h3
  go_wp2
  go_end0
  refine ⟨rfl, a3, b3, ?_⟩
  have e : mark c (s.data.toList.drop a) = (((some (skip (s.data.toList.drop a))).bind (want c)).bind fun l => some (skip l)) := by
    unfold mark
    rw [Option.bind_some]
    cases want c (skip (s.data.toList.drop a)) <;> rfl
  rw [e]; exact H3.out
end
end Go.Proofs.YtfngjfnakokgmaaGreatDoor.Txt
/- The reader takes a word, byte by byte. -/
namespace Go.Proofs.YtfngjfnakokgmaaGreatDoor.Txt
open Go.RowKit Go.Proofs.YtfngjfnakokgmaaGreatDoor.Sha
theorem word_snoc : ∀ (t : Bytes) (c : UInt8) (l : Bytes), word (t ++ [c]) l = (word t l).bind (want c)
  | [], c, l => by
    show (want c l).bind (word []) = _
    have e : word [] = some := by funext x; rfl
    rw [e]; simp
  | d :: t, c, l => by
    show (want d l).bind (word (t ++ [c])) = ((want d l).bind (word t)).bind (want c)
    cases want d l with
    | none => rfl
    | some q => exact word_snoc t c q
section
variable {rb : Nat} {s : ByteArray} {a : Nat} {bad : Bool} {w : World}
theorem word_went (t : ByteArray) (h : RD rb s a bad w) (hW : TxtW w) (hg : 29 ≤ rb) (ht : ∀ c ∈ t.data.toList, c ≠ 0) (hl : t.size ≤ 100) (hs : s.size ≤ 140737488355328) :
    Calls Tryz.prog 118 #[.pointer (some ⟨rb, 0, none⟩), .string t] w fun e w' => e = .returned (.tuple #[]) ∧ ∃ a' bd, Went rb s bad (word t.data.toList (s.data.toList.drop a)) a' bd w w' := by
  have HS : Hid (∀ k, k = rb → 29 ≤ k) := fun k hk => by rw [hk]; exact hg
  have HT : Hid (TxtW w) := hW
  have HZ : Hid (∀ c ∈ t.data.toList, c ≠ 0) := ht
  clear hW ht
  go_enter Tryz.func118, Tryz.ntmps118
  go_wp2
  go_loopw [7] (fun i wr => ∃ (k p : Nat) (bd : Bool), k ≤ t.size ∧ i = .int .i64 k ∧ Went rb s bad (word (t.data.toList.take k) (s.data.toList.drop a)) p bd w wr) (fun i _ => t.size - (intOf i).toNat)
  case atStart => exact ⟨0, a, bad, Nat.zero_le _, rfl, Went.stay h⟩
  case round =>
    clear h
    obtain ⟨k, p, bd, hk, rfl, hM⟩ := hrel
    have HM : Hid (Went rb s bad (word (t.data.toList.take k) (s.data.toList.drop a)) p bd w wr) := hM
    have HT1 : Hid (TxtW wr) := HT.out.only hM.only HS.out
    clear hM
    by_cases hlt : k < t.size
    · have hlt' : (k : Int) < (t.size : Int) := by omega
      have HC : Hid (t[k] ≠ 0) := HZ.out _ (by simp [ByteArray.getElem_eq_getElem_data])
      have HW : Hid (t.data.toList.take (k + 1) = t.data.toList.take k ++ [t[k]]) := by
        show _ = _
        rw [List.take_add_one, List.getElem?_eq_getElem (by simpa using hlt)]
        simp [ByteArray.getElem_eq_getElem_data]
      go_wp2_with fail
      refine (want_went t[k] HM.out.rd HT1.out hg HC.out hs).mono ?_
      rintro e w2 ⟨rfl, p2, b2, h2⟩
      have H2 : Hid (Went rb s bad (word (t.data.toList.take (k + 1)) (s.data.toList.drop a)) p2 b2 w w2) := by
        show Went _ _ _ _ _ _ _ _
        rw [HW.out, word_snoc]
        exact HM.out.trans h2
      clear h2
      go_wp2
      go_roundw
      case rel => exact ⟨k + 1, p2, b2, by omega, by go_num, H2.out⟩
      case measure => simp [intOf]; omega
    · have hge : ¬ (k : Int) < (t.size : Int) := by omega
      go_wp2
      go_end0
      have e : t.data.toList.take k = t.data.toList := List.take_of_length_le (by simpa using hlt)
      have h1 := HM.out
      rw [e] at h1
      cases bd with
      | false => exact ⟨rfl, p, .inl h1⟩
      | true => exact ⟨rfl, p, .inr h1⟩
end
end Go.Proofs.YtfngjfnakokgmaaGreatDoor.Txt
