/- The reader takes an object. -/
import Derived.Test.YtfngjfnakokgmaaGreatDoorTextMToTextG
namespace Go.Proofs.YtfngjfnakokgmaaGreatDoor.Txt
open Go.RowKit Go.Proofs.YtfngjfnakokgmaaGreatDoor.Sha Go.Maps
section
variable {rb : Nat} {s : ByteArray} {w : World}
/-- What object answers. -/
def OPost (rb : Nat) (s : ByteArray) (w : World) (e : Ending) (w' : World) : Prop :=
  ∃ (mb n : Nat) (D : DataW Unit) (a' : Nat) (bd : Bool), e = .returned (.map (some mb)) ∧ RD rb s a' bd w' ∧ Only (· = rb) w w' ∧ MapAt mb n D w' ∧ (object s.data.toList = none → bd = true) ∧ (∀ f, object s.data.toList = some f → bd = false ∧ D = FM f)
/-- What the loop keeps. -/
def ORel (rb mb : Nat) (s : ByteArray) (w wr : World) : Prop :=
  ∃ (n : Nat) (D : DataW Unit) (p : Nat) (bd : Bool) (had : Fields), RD rb s p bd wr ∧ Only (fun k => k = rb ∨ k = mb) w wr ∧ MapAt mb n D wr ∧ OI s (object s.data.toList) n D p bd had
theorem ORel.mk' {mb n : Nat} {D : DataW Unit} {p : Nat} {bd : Bool} {had : Fields} {wr : World} (h1 : RD rb s p bd wr) (h2 : Only (fun k => k = rb ∨ k = mb) w wr) (h3 : MapAt mb n D wr) (h4 : OI s (object s.data.toList) n D p bd had) : ORel rb mb s w wr := ⟨n, D, p, bd, had, h1, h2, h3, h4⟩
theorem ne_seen {s : ByteArray} {a : Nat} {c : UInt8} (h : seen s a false ≠ c) : ∀ d r, s.data.toList.drop a = d :: r → d ≠ c := by
  intro d r hl e
  have hlt : a < s.data.toList.length := by
    rcases Nat.lt_or_ge a s.data.toList.length with h' | h'
    · exact h'
    · rw [List.drop_eq_nil_of_le h'] at hl; cases hl
  rw [List.drop_eq_getElem_cons hlt] at hl
  injection hl with hl _
  apply h
  simp only [seen, List.getD_eq_getElem?_getD, List.getElem?_eq_getElem hlt]
  exact hl.trans e
theorem object_walk (h : RD rb s 0 false w) (hW : TxtW w) (hg : 29 ≤ rb) (hs : s.size ≤ 140737488355327) :
    Calls Tryz.prog 56 #[.pointer (some ⟨rb, 0, none⟩)] w fun e w' => OPost rb s w e w' := by
  have hrb := h.lt
  have hs' : s.size ≤ 140737488355328 := by omega
  obtain ⟨mb, HMB⟩ : ∃ mb, Hid (w.heap.size = mb) := ⟨_, rfl⟩
  have HNM : Hid (¬ (mb = rb)) := by show ¬ _; rw [← HMB.out]; omega
  have HNM' : Hid (¬ (rb = mb)) := fun e => HNM.out e.symm
  have HS : Hid (∀ k, k = rb → 29 ≤ k) := fun k hk => by rw [hk]; exact hg
  have HSm : Hid (∀ k, (k = rb ∨ k = mb) → 29 ≤ k) := fun k hk => by
    rcases hk with hk | hk
    · rw [hk]; exact hg
    · rw [hk, ← HMB.out]; exact hW.ng
  have HT : Hid (TxtW w) := hW
  have hbm := below_one w (.map #[] 0)
  have HRa : Hid (RD rb s 0 false (w.alloc (.map #[] 0))) := h.of_below hbm hrb
  have HKa : Hid (Only (· = rb) w (w.alloc (.map #[] 0))) := Only.of_below hbm
  have HMa : Hid (MapAt mb 0 (.map []) (w.alloc (.map #[] 0))) := by rw [← HMB.out]; exact World.ownsMap_made _ _ _ _
  have HTa : Hid (TxtW (w.alloc (.map #[] 0))) := HT.out.only HKa.out HS.out
  have hmm := @run_makeMap Tryz.prog
  clear hW h hbm hrb
  go_enter Tryz.func56, Tryz.ntmps56
  go_wp2_with fail
  rw [HMB.out]
  refine (mark_went 123 HRa.out HTa.out hg (by decide) hs').mono ?_
  rintro e w1 ⟨rfl, a1, b1, h1⟩
  have H1 : Hid (Went rb s false (mark 123 s.data.toList) a1 b1 (w.alloc (.map #[] 0)) w1) := h1
  have HK1 : Hid (Only (· = rb) w w1) := HKa.out.trans h1.only
  have HM1 : Hid (MapAt mb 0 (.map []) w1) := mapAt_only HMa.out h1.only HNM.out
  clear h1 HRa HKa HMa HTa hmm
  go_wp2_with fail
  refine (see_any H1.out.rd).mono ?_
  rintro e w2 ⟨rfl, h2, k2⟩
  have HR2 : Hid (RD rb s a1 b1 w2) := h2
  have HK2 : Hid (Only (· = rb) w w2) := HK1.out.trans k2
  have HM2 : Hid (MapAt mb 0 (.map []) w2) := mapAt_only HM1.out k2 HNM.out
  have HT2 : Hid (TxtW w2) := HT.out.only HK2.out HS.out
  clear h2 k2 HM1 HK1
  by_cases h125 : seen s a1 b1 = 125
  · obtain ⟨hb1, hlt, hdr⟩ := seen_drop 125 (by decide) h125
    subst hb1
    rw [h125]
    have HRel : Hid (ORel rb mb s w w2) := by
      refine ORel.mk' (n := 0) (D := .map []) (p := a1) (bd := false) (had := []) HR2.out (HK2.out.mono fun k hk => .inl hk) HM2.out ⟨fun _ => ⟨?_, rfl, ?_, Nat.zero_le _⟩, fun e => by cases e⟩
      · cases hm : mark 123 s.data.toList with
        | none => have := H1.out.no rfl hm; cases this
        | some r =>
          have e2 := (H1.out.yes r rfl hm).2
          rw [object_mark, hm, Option.bind_some, ← e2, hdr]
          simp only [if_true]
      · cases hm : mark 123 s.data.toList with
        | none => have := H1.out.no rfl hm; cases this
        | some r =>
          have e2 := (H1.out.yes r rfl hm).2
          rw [e2]; exact mark_skip hm
    clear hdr h125 hlt
    go_wp2
    go_loopw [] (fun wr => ORel rb mb s w wr) (fun wr => meas rb s wr)
    case atStart => exact HRel.out
    case round =>
      clear HRel
      obtain ⟨n, D, p, bd, had, hR, hK, hM, hI⟩ := hrel
      have HR : Hid (RD rb s p bd wr) := hR
      have HK : Hid (Only (fun k => k = rb ∨ k = mb) w wr) := hK
      have HM : Hid (MapAt mb n D wr) := hM
      have HI : Hid (OI s (object s.data.toList) n D p bd had) := hI
      clear hR hK hM hI
      go_wp2_with fail
      refine (see_any HR.out).mono ?_
      rintro e w3 ⟨rfl, h3, k3⟩
      have HR3 : Hid (RD rb s p bd w3) := h3
      have HK3 : Hid (Only (fun k => k = rb ∨ k = mb) w w3) := HK.out.trans (k3.mono fun k hk => .inl hk)
      have HM3 : Hid (MapAt mb n D w3) := mapAt_only HM.out k3 HNM.out
      have HT3 : Hid (TxtW w3) := HT.out.only HK3.out HSm.out
      clear h3 k3 HM HK
      by_cases h44 : seen s p bd = 44
      · obtain ⟨hbd, hlt, hdr⟩ := seen_drop 44 (by decide) h44
        subst hbd
        rw [h44]
        have HG := HI.out.good rfl
        have HC := behind_comma (had := had) hdr
        have HO : Hid (object s.data.toList = (fields (skip (s.data.toList.drop (p + 1))).length had (skip (s.data.toList.drop (p + 1)))).bind ended) := by show _ = _; rw [HG.1, HC.2]
        have HC1 : Hid (mark 44 (s.data.toList.drop p) = some (skip (s.data.toList.drop (p + 1)))) := HC.1
        have HD : Hid (D = FM had) := HG.2.1
        have HNp : Hid (n ≤ p) := HG.2.2.2
        have HPl : Hid (p < s.size) := hlt
        have HNl : Hid (n < maxLen) := by show _ < _; have := HG.2.2.2; unfold maxLen; omega
        clear hdr h44 HG HC hlt
        go_wp2_with fail
        refine (mark_went 44 HR3.out HT3.out hg (by decide) hs').mono ?_
        rintro e w4 ⟨rfl, a4, b4, h4⟩
        have HR4 : Hid (RD rb s a4 b4 w4) := h4.rd
        have HK4 : Hid (Only (fun k => k = rb ∨ k = mb) w w4) := HK3.out.trans (h4.only.mono fun k hk => .inl hk)
        have HM4 : Hid (MapAt mb n D w4) := mapAt_only HM3.out h4.only HNM.out
        have HT4 : Hid (TxtW w4) := HT.out.only HK4.out HSm.out
        have HY := h4.yes _ rfl HC1.out
        obtain ⟨hb4, hd4⟩ := HY
        subst hb4
        have HD4 : Hid (s.data.toList.drop a4 = skip (s.data.toList.drop (p + 1))) := hd4
        have HP4 : Hid (p < a4) := drop_lt (s := s) (by
          rw [hd4]
          have q1 := skip_le (s.data.toList.drop (p + 1))
          have q2 := HPl.out
          have q3 : s.data.toList.length = s.size := by simp
          rw [List.length_drop] at q1 ⊢
          omega)
        clear h4 hd4 HM3 HK3 HT3
        go_wp2_with fail
        refine (field_walk had HR4.out HT4.out HM4.out (fun _ => HD.out) HNl.out hg HNM.out hs).mono ?_
        rintro e w5 ⟨a5, b5, D5, rfl, h5, k5, m5, was5, f1, f2, f3⟩
        obtain ⟨had5, hI5, hlt5⟩ := OI.field (s := s) (O := object s.data.toList) (n := n) (p := a4) (p' := a5) (bd := b5) (had := had) (D' := D5) (b := false) (fun _ => by rw [HD4.out]; exact HO.out) (fun e => by cases e) (fun _ => by have q1 := HNp.out; have q2 := HP4.out; omega) was5 f1 f2 f3
        have HRel5 : Hid (ORel rb mb s w w5) := ORel.mk' h5 (HK4.out.trans k5) m5 hI5
        have HMe : Hid (meas rb s w5 < meas rb s wr) := meas_lt HR.out h5 (fun e => by have q1 := hlt5 rfl e; have q2 := HP4.out; omega)
        clear h5 k5 m5 was5 f1 f2 f3 hI5 hlt5 HM4 HK4 HT4
        go_wp2
        go_roundw
        case rel => exact HRel5.out
        case measure => exact HMe.out
      · have hne : (((seen s p bd).toNat : Int) == 44) = false := by
          simp only [beq_eq_false_iff_ne, ne_eq]
          intro e
          exact h44 (UInt8.toNat_inj.1 (by have e2 : (44 : UInt8).toNat = 44 := rfl; omega))
        have H44 : Hid (seen s p bd ≠ 44) := h44
        obtain ⟨u, HU⟩ : ∃ u, Hid (seen s p bd = u) := ⟨_, rfl⟩
        rw [HU.out] at hne ⊢
        clear h44
        go_wp2_with fail
        refine (mark_went 125 HR3.out HT3.out hg (by decide) hs').mono ?_
        rintro e w4 ⟨rfl, a4, b4, h4⟩
        have H4 : Hid (Went rb s bd (mark 125 (s.data.toList.drop p)) a4 b4 w3 w4) := h4
        have HK4 : Hid (Only (fun k => k = rb ∨ k = mb) w w4) := HK3.out.trans (h4.only.mono fun k hk => .inl hk)
        have HM4 : Hid (MapAt mb n D w4) := mapAt_only HM3.out h4.only HNM.out
        have HE : Hid (bd = false → object s.data.toList = ((mark 125 (s.data.toList.drop p)).map fun r => (had, r)).bind ended ∧ D = FM had) := fun e => by
          obtain ⟨q1, q2, q3, _⟩ := HI.out.good e
          refine ⟨?_, q2⟩
          rw [q1, behind_fin q3 (ne_seen (by have := H44.out; rw [e] at this; exact this))]
        have HE2 : Hid (bd = true → object s.data.toList = none) := HI.out.bad
        clear h4 HM3 HK3 HT3 HR3 HR HI
        have c0 := H4.out.rd.c0
        have c1 := H4.out.rd.c1
        go_wp2_with fail
        by_cases hat : a4 < s.size
        · have hat' : (a4 : Int) < (s.size : Int) := by omega
          have HAt : Hid (a4 < s.size) := hat
          clear hat
          go_quiet (fail)
          have HR5 : Hid (RD rb s a4 b4 (w4.drewN nq)) := H4.out.rd.drew nq
          have HK5 : Hid (Only (fun k => k = rb ∨ k = mb) w (w4.drewN nq)) := HK4.out.trans (Only.drew _ _ nq)
          have HM5 : Hid (MapAt mb n D (w4.drewN nq)) := mapAt_only (S := fun _ => False) HM4.out (Only.drew _ _ nq) (fun e => e)
          clear c0 c1
          generalize hw5 : w4.drewN nq = w5 at *
          clear hw5
          have HT5 : Hid (TxtW w5) := HT.out.only HK5.out HSm.out
          go_wp2_with fail
          refine (refuse_walk HR5.out HT5.out hg).mono ?_
          rintro e w6 ⟨rfl, h6, k6⟩
          have HF : Hid (OPost rb s w (.returned (.map (some mb))) w6) := by
            refine ⟨mb, n, D, a4, true, rfl, h6, (HK5.out.trans (k6.mono fun k hk => .inl hk)).drop_new (fun k hk => hk.imp id fun e => by rw [e, HMB.out]; exact Nat.le_refl _), mapAt_only HM5.out k6 HNM.out, fun _ => rfl, fun f hf => ?_⟩
            exfalso
            cases hbd : bd with
            | true => rw [HE2.out hbd] at hf; cases hf
            | false =>
              rw [(HE.out hbd).1] at hf
              obtain ⟨q, hq, hf⟩ := Option.bind_eq_some_iff.1 hf
              obtain ⟨r, hr, he⟩ := Option.map_eq_some_iff.1 hq
              obtain ⟨g1, g2⟩ := H4.out.yes r hbd hr
              rw [← he, ended] at hf
              have hl : r ≠ [] := by
                rw [← g2]
                intro e
                have q1 := List.drop_eq_nil_iff.1 e
                have q2 := HAt.out
                have q3 : s.data.toList.length = s.size := by simp
                omega
              rw [if_neg hl] at hf
              cases hf
          clear h6 k6
          go_wp2
          go_ret
          exact HF.out
        · have hat' : ¬ (a4 : Int) < (s.size : Int) := by omega
          have HAt : Hid (s.size ≤ a4) := by show _ ≤ _; omega
          clear hat
          go_quiet (fail)
          have HF : Hid (OPost rb s w (.returned (.map (some mb))) (w4.drewN nq)) := by
            refine ⟨mb, n, D, a4, b4, rfl, H4.out.rd.drew nq, (HK4.out.trans (Only.drew _ _ nq)).drop_new (fun k hk => hk.imp id fun e => by rw [e, HMB.out]; exact Nat.le_refl _), mapAt_only (S := fun _ => False) HM4.out (Only.drew _ _ nq) (fun e => e), fun hn => ?_, fun f hf => ?_⟩
            · cases hbd : bd with
              | true => exact H4.out.was hbd
              | false =>
                rw [(HE.out hbd).1] at hn
                cases hr : mark 125 (s.data.toList.drop p) with
                | none => exact H4.out.no hbd hr
                | some r =>
                  obtain ⟨g1, g2⟩ := H4.out.yes r hbd hr
                  rw [hr] at hn
                  have hl : r = [] := by
                    rw [← g2]
                    have q2 := HAt.out
                    exact List.drop_eq_nil_of_le (by simpa using q2)
                  simp [ended, hl] at hn
            · cases hbd : bd with
              | true => rw [HE2.out hbd] at hf; cases hf
              | false =>
                rw [(HE.out hbd).1] at hf
                obtain ⟨q, hq, hf⟩ := Option.bind_eq_some_iff.1 hf
                obtain ⟨r, hr, he⟩ := Option.map_eq_some_iff.1 hq
                obtain ⟨g1, g2⟩ := H4.out.yes r hbd hr
                rw [← he, ended] at hf
                split at hf
                · injection hf with hf
                  exact ⟨g1, by rw [(HE.out hbd).2, ← hf]⟩
                · cases hf
          clear c0 c1
          go_wp2
          go_ret
          exact HF.out
  · have hne : (((seen s a1 b1).toNat : Int) != 125) = true := by
      simp only [bne_iff_ne, ne_eq]
      intro e
      exact h125 (UInt8.toNat_inj.1 (by have e2 : (125 : UInt8).toNat = 125 := rfl; omega))
    have H125 : Hid (seen s a1 b1 ≠ 125) := h125
    obtain ⟨u1, HU1⟩ : ∃ u, Hid (seen s a1 b1 = u) := ⟨_, rfl⟩
    rw [HU1.out] at hne ⊢
    clear h125
    go_wp2_with fail
    refine (field_walk [] HR2.out HT2.out HM2.out (fun _ => rfl) (by decide) hg HNM.out hs).mono ?_
    rintro e w2b ⟨a5, b5, D5, rfl, h5, k5, m5, was5, f1, f2, f3⟩
    obtain ⟨had5, hI5, -⟩ := OI.field (s := s) (O := object s.data.toList) (n := 0) (p := a1) (p' := a5) (bd := b5) (had := []) (D' := D5) (b := b1) (fun e => by
        cases hm : mark 123 s.data.toList with
        | none => have := H1.out.no rfl hm; rw [e] at this; cases this
        | some r =>
          have e2 := (H1.out.yes r rfl hm).2
          rw [object_mark, hm, Option.bind_some, ← e2]
          have hn := H125.out
          rw [e] at hn
          have hd := ne_seen hn
          cases hl : s.data.toList.drop a1 with
          | nil => rfl
          | cons c t =>
            simp only [if_neg (hd c t hl)]) (fun e => by
        cases hm : mark 123 s.data.toList with
        | none => rw [object_mark, hm]; rfl
        | some r => have := (H1.out.yes r rfl hm).1; rw [e] at this; cases this) (fun _ => Nat.zero_le _) was5 f1 f2 f3
    have HRel : Hid (ORel rb mb s w w2b) := ORel.mk' h5 ((HK2.out.mono fun k hk => .inl hk).trans k5) m5 hI5
    clear h5 k5 m5 was5 f1 f2 f3 hI5
    go_wp2
    go_loopw [] (fun wr => ORel rb mb s w wr) (fun wr => meas rb s wr)
    case atStart => exact HRel.out
    case round =>
      clear HRel
      obtain ⟨n, D, p, bd, had, hR, hK, hM, hI⟩ := hrel
      have HR : Hid (RD rb s p bd wr) := hR
      have HK : Hid (Only (fun k => k = rb ∨ k = mb) w wr) := hK
      have HM : Hid (MapAt mb n D wr) := hM
      have HI : Hid (OI s (object s.data.toList) n D p bd had) := hI
      clear hR hK hM hI
      go_wp2_with fail
      refine (see_any HR.out).mono ?_
      rintro e w3 ⟨rfl, h3, k3⟩
      have HR3 : Hid (RD rb s p bd w3) := h3
      have HK3 : Hid (Only (fun k => k = rb ∨ k = mb) w w3) := HK.out.trans (k3.mono fun k hk => .inl hk)
      have HM3 : Hid (MapAt mb n D w3) := mapAt_only HM.out k3 HNM.out
      have HT3 : Hid (TxtW w3) := HT.out.only HK3.out HSm.out
      clear h3 k3 HM HK
      by_cases h44 : seen s p bd = 44
      · obtain ⟨hbd, hlt, hdr⟩ := seen_drop 44 (by decide) h44
        subst hbd
        rw [h44]
        have HG := HI.out.good rfl
        have HC := behind_comma (had := had) hdr
        have HO : Hid (object s.data.toList = (fields (skip (s.data.toList.drop (p + 1))).length had (skip (s.data.toList.drop (p + 1)))).bind ended) := by show _ = _; rw [HG.1, HC.2]
        have HC1 : Hid (mark 44 (s.data.toList.drop p) = some (skip (s.data.toList.drop (p + 1)))) := HC.1
        have HD : Hid (D = FM had) := HG.2.1
        have HNp : Hid (n ≤ p) := HG.2.2.2
        have HPl : Hid (p < s.size) := hlt
        have HNl : Hid (n < maxLen) := by show _ < _; have := HG.2.2.2; unfold maxLen; omega
        clear hdr h44 HG HC hlt
        go_wp2_with fail
        refine (mark_went 44 HR3.out HT3.out hg (by decide) hs').mono ?_
        rintro e w4 ⟨rfl, a4, b4, h4⟩
        have HR4 : Hid (RD rb s a4 b4 w4) := h4.rd
        have HK4 : Hid (Only (fun k => k = rb ∨ k = mb) w w4) := HK3.out.trans (h4.only.mono fun k hk => .inl hk)
        have HM4 : Hid (MapAt mb n D w4) := mapAt_only HM3.out h4.only HNM.out
        have HT4 : Hid (TxtW w4) := HT.out.only HK4.out HSm.out
        have HY := h4.yes _ rfl HC1.out
        obtain ⟨hb4, hd4⟩ := HY
        subst hb4
        have HD4 : Hid (s.data.toList.drop a4 = skip (s.data.toList.drop (p + 1))) := hd4
        have HP4 : Hid (p < a4) := drop_lt (s := s) (by
          rw [hd4]
          have q1 := skip_le (s.data.toList.drop (p + 1))
          have q2 := HPl.out
          have q3 : s.data.toList.length = s.size := by simp
          rw [List.length_drop] at q1 ⊢
          omega)
        clear h4 hd4 HM3 HK3 HT3
        go_wp2_with fail
        refine (field_walk had HR4.out HT4.out HM4.out (fun _ => HD.out) HNl.out hg HNM.out hs).mono ?_
        rintro e w5 ⟨a5, b5, D5, rfl, h5, k5, m5, was5, f1, f2, f3⟩
        obtain ⟨had5, hI5, hlt5⟩ := OI.field (s := s) (O := object s.data.toList) (n := n) (p := a4) (p' := a5) (bd := b5) (had := had) (D' := D5) (b := false) (fun _ => by rw [HD4.out]; exact HO.out) (fun e => by cases e) (fun _ => by have q1 := HNp.out; have q2 := HP4.out; omega) was5 f1 f2 f3
        have HRel5 : Hid (ORel rb mb s w w5) := ORel.mk' h5 (HK4.out.trans k5) m5 hI5
        have HMe : Hid (meas rb s w5 < meas rb s wr) := meas_lt HR.out h5 (fun e => by have q1 := hlt5 rfl e; have q2 := HP4.out; omega)
        clear h5 k5 m5 was5 f1 f2 f3 hI5 hlt5 HM4 HK4 HT4
        go_wp2
        go_roundw
        case rel => exact HRel5.out
        case measure => exact HMe.out
      · have hne : (((seen s p bd).toNat : Int) == 44) = false := by
          simp only [beq_eq_false_iff_ne, ne_eq]
          intro e
          exact h44 (UInt8.toNat_inj.1 (by have e2 : (44 : UInt8).toNat = 44 := rfl; omega))
        have H44 : Hid (seen s p bd ≠ 44) := h44
        obtain ⟨u, HU⟩ : ∃ u, Hid (seen s p bd = u) := ⟨_, rfl⟩
        rw [HU.out] at hne ⊢
        clear h44
        go_wp2_with fail
        refine (mark_went 125 HR3.out HT3.out hg (by decide) hs').mono ?_
        rintro e w4 ⟨rfl, a4, b4, h4⟩
        have H4 : Hid (Went rb s bd (mark 125 (s.data.toList.drop p)) a4 b4 w3 w4) := h4
        have HK4 : Hid (Only (fun k => k = rb ∨ k = mb) w w4) := HK3.out.trans (h4.only.mono fun k hk => .inl hk)
        have HM4 : Hid (MapAt mb n D w4) := mapAt_only HM3.out h4.only HNM.out
        have HE : Hid (bd = false → object s.data.toList = ((mark 125 (s.data.toList.drop p)).map fun r => (had, r)).bind ended ∧ D = FM had) := fun e => by
          obtain ⟨q1, q2, q3, _⟩ := HI.out.good e
          refine ⟨?_, q2⟩
          rw [q1, behind_fin q3 (ne_seen (by have := H44.out; rw [e] at this; exact this))]
        have HE2 : Hid (bd = true → object s.data.toList = none) := HI.out.bad
        clear h4 HM3 HK3 HT3 HR3 HR HI
        have c0 := H4.out.rd.c0
        have c1 := H4.out.rd.c1
        go_wp2_with fail
        by_cases hat : a4 < s.size
        · have hat' : (a4 : Int) < (s.size : Int) := by omega
          have HAt : Hid (a4 < s.size) := hat
          clear hat
          go_quiet (fail)
          have HR5 : Hid (RD rb s a4 b4 (w4.drewN nq)) := H4.out.rd.drew nq
          have HK5 : Hid (Only (fun k => k = rb ∨ k = mb) w (w4.drewN nq)) := HK4.out.trans (Only.drew _ _ nq)
          have HM5 : Hid (MapAt mb n D (w4.drewN nq)) := mapAt_only (S := fun _ => False) HM4.out (Only.drew _ _ nq) (fun e => e)
          clear c0 c1
          generalize hw5 : w4.drewN nq = w5 at *
          clear hw5
          have HT5 : Hid (TxtW w5) := HT.out.only HK5.out HSm.out
          go_wp2_with fail
          refine (refuse_walk HR5.out HT5.out hg).mono ?_
          rintro e w6 ⟨rfl, h6, k6⟩
          have HF : Hid (OPost rb s w (.returned (.map (some mb))) w6) := by
            refine ⟨mb, n, D, a4, true, rfl, h6, (HK5.out.trans (k6.mono fun k hk => .inl hk)).drop_new (fun k hk => hk.imp id fun e => by rw [e, HMB.out]; exact Nat.le_refl _), mapAt_only HM5.out k6 HNM.out, fun _ => rfl, fun f hf => ?_⟩
            exfalso
            cases hbd : bd with
            | true => rw [HE2.out hbd] at hf; cases hf
            | false =>
              rw [(HE.out hbd).1] at hf
              obtain ⟨q, hq, hf⟩ := Option.bind_eq_some_iff.1 hf
              obtain ⟨r, hr, he⟩ := Option.map_eq_some_iff.1 hq
              obtain ⟨g1, g2⟩ := H4.out.yes r hbd hr
              rw [← he, ended] at hf
              have hl : r ≠ [] := by
                rw [← g2]
                intro e
                have q1 := List.drop_eq_nil_iff.1 e
                have q2 := HAt.out
                have q3 : s.data.toList.length = s.size := by simp
                omega
              rw [if_neg hl] at hf
              cases hf
          clear h6 k6
          go_wp2
          go_ret
          exact HF.out
        · have hat' : ¬ (a4 : Int) < (s.size : Int) := by omega
          have HAt : Hid (s.size ≤ a4) := by show _ ≤ _; omega
          clear hat
          go_quiet (fail)
          have HF : Hid (OPost rb s w (.returned (.map (some mb))) (w4.drewN nq)) := by
            refine ⟨mb, n, D, a4, b4, rfl, H4.out.rd.drew nq, (HK4.out.trans (Only.drew _ _ nq)).drop_new (fun k hk => hk.imp id fun e => by rw [e, HMB.out]; exact Nat.le_refl _), mapAt_only (S := fun _ => False) HM4.out (Only.drew _ _ nq) (fun e => e), fun hn => ?_, fun f hf => ?_⟩
            · cases hbd : bd with
              | true => exact H4.out.was hbd
              | false =>
                rw [(HE.out hbd).1] at hn
                cases hr : mark 125 (s.data.toList.drop p) with
                | none => exact H4.out.no hbd hr
                | some r =>
                  obtain ⟨g1, g2⟩ := H4.out.yes r hbd hr
                  rw [hr] at hn
                  have hl : r = [] := by
                    rw [← g2]
                    have q2 := HAt.out
                    exact List.drop_eq_nil_of_le (by simpa using q2)
                  simp [ended, hl] at hn
            · cases hbd : bd with
              | true => rw [HE2.out hbd] at hf; cases hf
              | false =>
                rw [(HE.out hbd).1] at hf
                obtain ⟨q, hq, hf⟩ := Option.bind_eq_some_iff.1 hf
                obtain ⟨r, hr, he⟩ := Option.map_eq_some_iff.1 hq
                obtain ⟨g1, g2⟩ := H4.out.yes r hbd hr
                rw [← he, ended] at hf
                split at hf
                · injection hf with hf
                  exact ⟨g1, by rw [(HE.out hbd).2, ← hf]⟩
                · cases hf
          clear c0 c1
          go_wp2
          go_ret
          exact HF.out
end
end Go.Proofs.YtfngjfnakokgmaaGreatDoor.Txt
/- info.readObject: the fields of a text, or an error. -/
namespace Go.Proofs.YtfngjfnakokgmaaGreatDoor.Txt
open Go.RowKit Go.Proofs.YtfngjfnakokgmaaGreatDoor.Sha Go.Maps
theorem below_of_only {S : Nat → Prop} {w0 w w' : World} (hb : Below w0.heap.size w0 w) (h : Only S w w') (hS : ∀ k, S k → w0.heap.size ≤ k) : Below w0.heap.size w0 w' :=
  ⟨h.os.trans hb.os, h.tape.trans hb.tape, h.output.trans hb.output, Nat.le_trans hb.size h.size, fun k hk => (h.block k (Nat.lt_of_lt_of_le hk hb.size) (fun e => by have := hS k e; omega)).trans (hb.block k hk)⟩
/-- What readObject answers. -/
def RPost (s : ByteArray) (w : World) (e : Ending) (w' : World) : Prop :=
  Below w.heap.size w w' ∧ ((∃ f mb n, object s.data.toList = some f ∧ e = .returned (.tuple #[.map (some mb), .nilIface]) ∧ MapAt mb n (FM f) w') ∨ (object s.data.toList = none ∧ ∃ x, e = .returned (.tuple #[.map none, .iface 217 x])))
theorem readObject_walk (s : ByteArray) (w : World) (hW : TxtW w) (hs : s.size ≤ 140737488355327) :
    Calls Tryz.prog 38 #[.string s] w fun e w' => RPost s w e w' := by
  obtain ⟨rb, HRB⟩ : ∃ rb, Hid (w.heap.size = rb) := ⟨_, rfl⟩
  have hba := below_one w (.cells #[.string s, .int .i64 0, .nilIface] 137)
  have HBa : Hid (Below w.heap.size w (w.alloc (.cells #[.string s, .int .i64 0, .nilIface] 137))) := hba
  have HRa : Hid (RD rb s 0 false (w.alloc (.cells #[.string s, .int .i64 0, .nilIface] 137))) := by
    rw [← HRB.out]
    exact ⟨by simp, by simp, ⟨.nilIface, by simp, rfl⟩, fun j => by simp, by simp, Nat.zero_le _⟩
  have HTa : Hid (TxtW (w.alloc (.cells #[.string s, .int .i64 0, .nilIface] 137))) := hW.only (S := fun _ => False) (Only.of_below hba) (fun _ e => e.elim)
  have hg : 29 ≤ rb := by rw [← HRB.out]; exact hW.ng
  clear hba hW
  go_enter Tryz.func38, Tryz.ntmps38
  go_wp2_with fail
  rw [HRB.out]
  refine (object_walk HRa.out HTa.out hg hs).mono ?_
  rintro e w1 ⟨mb, n, D, a', bd, rfl, h1, k1, m1, n1, f1⟩
  have HB1 : Hid (Below w.heap.size w w1) := below_of_only HBa.out k1 (fun k hk => by rw [hk, HRB.out]; exact Nat.le_refl _)
  have HM1 : Hid (MapAt mb n D w1) := m1
  have HN1 : Hid (object s.data.toList = none → bd = true) := n1
  have HF1 : Hid (∀ f, object s.data.toList = some f → bd = false ∧ D = FM f) := f1
  obtain ⟨ev, he, hb⟩ := h1.c2
  clear h1 k1 m1 n1 f1 HRa HTa HBa
  cases bd with
  | true =>
    obtain ⟨x, rfl⟩ := hb
    have HP : Hid (∀ nq, RPost s w (.returned (.tuple #[.map none, .iface 217 x])) (w1.drewN nq)) := fun nq => by
      refine ⟨HB1.out.trans ⟨rfl, rfl, rfl, Nat.le_refl _, fun _ _ => rfl⟩, Or.inr ⟨?_, x, rfl⟩⟩
      cases ho : object s.data.toList with
      | none => rfl
      | some f => have := (HF1.out f ho).1; cases this
    go_wp2_with fail
    go_quiet (fail)
    go_wp2
    go_ret2
    exact HP.out _
  | false =>
    cases hb
    have HP : Hid (RPost s w (.returned (.tuple #[.map (some mb), .nilIface])) w1) := by
      refine ⟨HB1.out, Or.inl ?_⟩
      cases ho : object s.data.toList with
      | none => have := HN1.out ho; cases this
      | some f =>
        have hD := (HF1.out f ho).2
        exact ⟨f, mb, n, rfl, rfl, hD ▸ HM1.out⟩
    go_wp2
    go_ret2
    exact HP.out
end Go.Proofs.YtfngjfnakokgmaaGreatDoor.Txt
