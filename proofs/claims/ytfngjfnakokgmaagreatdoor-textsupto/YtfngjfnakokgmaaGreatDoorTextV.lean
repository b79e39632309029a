/- The reader takes a value. -/
import Derived.Test.YtfngjfnakokgmaaGreatDoorBookFToTextQ
namespace Go.Proofs.YtfngjfnakokgmaaGreatDoor.Txt
open Go.RowKit Go.Proofs.YtfngjfnakokgmaaGreatDoor.Sha
theorem lt_of_cell {w : World} {a : Addr} {v : Value} (h : w.cell? a = some v) : a.block < w.heap.size := by
  rcases Nat.lt_or_ge a.block w.heap.size with h' | h'
  · exact h'
  · simp [World.cell?, Array.getElem?_eq_none h'] at h
/-- A block of two cells that may be written. -/
structure Res2 (B : Nat) (w : World) : Prop where
  f : ∀ o, w.frozen? ⟨B, o, none⟩ = false
  c0 : ∃ v, w.cell? ⟨B, 0, none⟩ = some v
  c1 : ∃ v, w.cell? ⟨B, 1, none⟩ = some v
theorem Res2.only {S : Nat → Prop} {B : Nat} {w w' : World} (h : Res2 B w) (hk : Only S w w') (hn : ¬ S B) : Res2 B w' := by
  obtain ⟨v0, e0⟩ := h.c0
  obtain ⟨v1, e1⟩ := h.c1
  have hl : B < w.heap.size := lt_of_cell e0
  have hb := hk.block B hl hn
  refine ⟨fun o => ?_, ⟨v0, by rw [hk.cell (p := ⟨B, 0, none⟩) hl hn]; exact e0⟩, ⟨v1, by rw [hk.cell (p := ⟨B, 1, none⟩) hl hn]; exact e1⟩⟩
  have e : w'.frozen? ⟨B, o, none⟩ = w.frozen? ⟨B, o, none⟩ := by simp only [World.frozen?, hb]
  rw [e]; exact h.f o
theorem res2_new (w : World) (a b : Value) (t : TypeId) : Res2 w.heap.size (w.alloc (.cells #[a, b] t)) := ⟨fun o => by simp, ⟨a, by simp⟩, ⟨b, by simp⟩⟩
theorem below_set2 {B : Nat} {w w' : World} (h : Below B w w') (k : Nat) (hk : B ≤ k) (a b : Value) : Below B w ((w'.setCell ⟨k, 0, none⟩ a).setCell ⟨k, 1, none⟩ b) :=
  (h.setCell (p := ⟨k, 0, none⟩) hk _).setCell (p := ⟨k, 1, none⟩) hk _
section
variable {rb : Nat} {s : ByteArray} {a : Nat} {bad : Bool} {w : World}
theorem Went.wrap {res : Option Bytes} {a' : Nat} {bd : Bool} {w1 w2 w3 : World} (k : Only (· = rb) w w1) (h : Went rb s bad res a' bd w1 w2) (hb : Below w.heap.size w2 w3) (hr : rb < w.heap.size) : Went rb s bad res a' bd w w3 :=
  ⟨h.rd.of_below hb hr, (k.trans h.only).then_below hb, h.was, h.yes, h.no⟩
theorem Went.res {res res' : Option Bytes} {a' : Nat} {bd : Bool} {w' : World} (h : Went rb s bad res a' bd w w') (he : bad = false → res' = res) : Went rb s bad res' a' bd w w' :=
  ⟨h.rd, h.only, h.was, fun r hb hr => h.yes r hb (by rw [← he hb]; exact hr), fun hb hr => h.no hb (by rw [← he hb]; exact hr)⟩
theorem map_snd {α : Type} (r : Option Bytes) (x : α) : (r.map fun q => (x, q)).map (·.2) = r := by cases r <;> rfl
theorem value_quot (h : seen s a false = 34) : value (s.data.toList.drop a) = (quoted (s.data.toList.drop a)).map fun p => (some p.1, p.2) := by
  rw [(seen_drop 34 (by decide) h).2.2]
  simp only [value, quoted, if_true]
theorem value_true (h : seen s a false = 116) : value (s.data.toList.drop a) = (word [116, 114, 117, 101] (s.data.toList.drop a)).map fun r => (none, r) := by
  rw [(seen_drop 116 (by decide) h).2.2, value, if_neg (by decide), if_pos rfl]
theorem value_false (h : seen s a false = 102) : value (s.data.toList.drop a) = (word [102, 97, 108, 115, 101] (s.data.toList.drop a)).map fun r => (none, r) := by
  rw [(seen_drop 102 (by decide) h).2.2, value, if_neg (by decide), if_neg (by decide), if_pos rfl]
theorem value_null (h : seen s a false = 110) : value (s.data.toList.drop a) = (word [110, 117, 108, 108] (s.data.toList.drop a)).map fun r => (none, r) := by
  rw [(seen_drop 110 (by decide) h).2.2, value, if_neg (by decide), if_neg (by decide), if_neg (by decide), if_pos rfl]
theorem value_num (h1 : seen s a false ≠ 34) (h2 : seen s a false ≠ 116) (h3 : seen s a false ≠ 102) (h4 : seen s a false ≠ 110) : value (s.data.toList.drop a) = (number (s.data.toList.drop a)).map fun r => (none, r) := by
  rcases Nat.lt_or_ge a s.data.toList.length with hl | hl
  · have e : seen s a false = s.data.toList[a] := by
      simp only [seen, List.getD_eq_getElem?_getD, List.getElem?_eq_getElem hl]; rfl
    rw [e] at h1 h2 h3 h4
    rw [List.drop_eq_getElem_cons hl, value, if_neg h1, if_neg h2, if_neg h3, if_neg h4]
  · rw [List.drop_eq_nil_of_le hl]; rfl
/-- What value answers. -/
def VPost (rb : Nat) (s : ByteArray) (a : Nat) (bad : Bool) (w : World) (e : Ending) (w' : World) : Prop :=
  ∃ (b : Bool) (t : Bytes) (a' : Nat) (bd : Bool), e = .returned (.agg #[.bool b, .string ⟨t.toArray⟩]) ∧ t.length ≤ s.size ∧ Went rb s bad ((value (s.data.toList.drop a)).map (·.2)) a' bd w w' ∧ (bad = false → ∀ q, value (s.data.toList.drop a) = some q → q.1 = if b then some t else none) ∧ (b = false → t = [])
theorem vpost_none {res : Option Bytes} {a' : Nat} {bd : Bool} {w' : World} (h : Went rb s bad res a' bd w w') (hv : bad = false → value (s.data.toList.drop a) = res.map fun r => (none, r)) : VPost rb s a bad w (.returned (.agg #[.bool false, .string ⟨#[]⟩])) w' :=
  ⟨false, [], a', bd, rfl, Nat.zero_le _, h.res (fun hb => by rw [hv hb, map_snd]), fun hb q hq => by
    rw [hv hb] at hq
    obtain ⟨r, _, he⟩ := Option.map_eq_some_iff.1 hq
    rw [← he]; rfl, fun _ => rfl⟩
theorem value_walk (h : RD rb s a bad w) (hW : TxtW w) (hg : 29 ≤ rb) (hs : s.size ≤ 140737488355327) :
    Calls Tryz.prog 103 #[.pointer (some ⟨rb, 0, none⟩)] w fun e w' => VPost rb s a bad w e w' := by
  have hrb := h.lt
  have HRb : Hid (rb < w.heap.size) := hrb
  have HS : Hid (∀ k, k = rb → 29 ≤ k) := fun k hk => by rw [hk]; exact hg
  have HNB : Hid (¬ (w.heap.size = rb)) := fun e => by omega
  have hs' : s.size ≤ 140737488355328 := by omega
  have hbA := below_one w (.cells #[.bool false, .string ⟨#[]⟩] 110)
  have HKA : Hid (Only (· = rb) w (w.alloc (.cells #[.bool false, .string ⟨#[]⟩] 110))) := Only.of_below hbA
  have HHA : Hid (RD rb s a bad (w.alloc (.cells #[.bool false, .string ⟨#[]⟩] 110))) := h.of_below hbA hrb
  have HRA : Hid (Res2 w.heap.size (w.alloc (.cells #[.bool false, .string ⟨#[]⟩] 110))) := res2_new _ _ _ _
  have HT : Hid (TxtW w) := hW
  clear hW h hbA hrb
  go_enter Tryz.func103, Tryz.ntmps103
  go_wp2_with fail
  refine (see_any HHA.out).mono ?_
  rintro e w1 ⟨rfl, h1, k1⟩
  have HM1 : Hid (RD rb s a bad w1) := h1
  have HK1 : Hid (Only (· = rb) w w1) := HKA.out.trans k1
  have HR1 : Hid (Res2 w.heap.size w1) := HRA.out.only k1 HNB.out
  have HT1 : Hid (TxtW w1) := HT.out.only HK1.out HS.out
  clear h1 k1 HKA HHA HRA
  by_cases h34 : seen s a bad = 34
  · have HC : Hid (bad = false → value (s.data.toList.drop a) = (quoted (s.data.toList.drop a)).map fun p => (some p.1, p.2)) := fun hb => by rw [hb] at h34; exact value_quot h34
    rw [h34]
    clear h34
    go_wp2_with fail
    refine (quoted_walk HM1.out HT1.out hg hs).mono ?_
    rintro e w2 ⟨t, a', bd, rfl, ht, hq, hv⟩
    have HR2 := HR1.out.only hq.only HNB.out
    obtain ⟨v0, r0⟩ := HR2.c0
    obtain ⟨v1, r1⟩ := HR2.c1
    have rf := HR2.f
    have HF : Hid (VPost rb s a bad w (.returned (.agg #[.bool true, .string ⟨t.toArray⟩])) ((w2.setCell ⟨w.heap.size, 0, none⟩ (.bool true)).setCell ⟨w.heap.size, 1, none⟩ (.string ⟨t.toArray⟩))) := by
      refine ⟨true, t, a', bd, rfl, ht, (hq.wrap HK1.out (below_set2 (Below.refl _ _) _ (Nat.le_refl _) _ _) HRb.out).res (fun hb => ?_), fun hb q hq => ?_, fun e => (by cases e)⟩
      · rw [HC.out hb, Option.map_map]; rfl
      · rw [HC.out hb] at hq
        obtain ⟨p, hp, he⟩ := Option.map_eq_some_iff.1 hq
        rw [← he, hv hb p hp]; rfl
    clear HR2 hq hv
    go_wp2
    refine bodyPost_ret (v := .agg #[.bool true, .string ⟨t.toArray⟩]) (by simp [results, Tryz.results103, go_sem, r0, r1]) rfl ?_
    exact HF.out
  · have n34 : (((seen s a bad).toNat : Int) == 34) = false := by
      simp only [beq_eq_false_iff_ne, ne_eq]
      intro e
      exact h34 (UInt8.toNat_inj.1 (by have e2 : (34 : UInt8).toNat = 34 := rfl; omega))
    have H34 : Hid (seen s a bad ≠ 34) := h34
    clear h34
    by_cases h116 : seen s a bad = 116
    · have HC : Hid (bad = false → value (s.data.toList.drop a) = (word [116, 114, 117, 101] (s.data.toList.drop a)).map fun r => (none, r)) := fun hb => by rw [hb] at h116; exact value_true h116
      rw [h116]
      clear h116 n34
      go_wp2_with fail
      refine (word_went ⟨#[116, 114, 117, 101]⟩ HM1.out HT1.out hg (by decide) (by decide) hs').mono ?_
      rintro e w2 ⟨rfl, a', bd, h2⟩
      have HR2 := HR1.out.only h2.only HNB.out
      obtain ⟨v0, r0⟩ := HR2.c0
      obtain ⟨v1, r1⟩ := HR2.c1
      have rf := HR2.f
      have HF : Hid (VPost rb s a bad w (.returned (.agg #[.bool false, .string ⟨#[]⟩])) ((w2.setCell ⟨w.heap.size, 0, none⟩ (.bool false)).setCell ⟨w.heap.size, 1, none⟩ (.string ⟨#[]⟩))) := vpost_none (h2.wrap HK1.out (below_set2 (Below.refl _ _) _ (Nat.le_refl _) _ _) HRb.out) HC.out
      clear HR2 h2
      go_wp2
      refine bodyPost_ret (v := .agg #[.bool false, .string ⟨#[]⟩]) (by simp [results, Tryz.results103, go_sem, r0, r1]) rfl ?_
      exact HF.out
    · have n116 : (((seen s a bad).toNat : Int) == 116) = false := by
        simp only [beq_eq_false_iff_ne, ne_eq]
        intro e
        exact h116 (UInt8.toNat_inj.1 (by have e2 : (116 : UInt8).toNat = 116 := rfl; omega))
      have H116 : Hid (seen s a bad ≠ 116) := h116
      clear h116
      by_cases h102 : seen s a bad = 102
      · have HC : Hid (bad = false → value (s.data.toList.drop a) = (word [102, 97, 108, 115, 101] (s.data.toList.drop a)).map fun r => (none, r)) := fun hb => by rw [hb] at h102; exact value_false h102
        rw [h102]
        clear h102 n34 n116
        go_wp2_with fail
        refine (word_went ⟨#[102, 97, 108, 115, 101]⟩ HM1.out HT1.out hg (by decide) (by decide) hs').mono ?_
        rintro e w2 ⟨rfl, a', bd, h2⟩
        have HR2 := HR1.out.only h2.only HNB.out
        obtain ⟨v0, r0⟩ := HR2.c0
        obtain ⟨v1, r1⟩ := HR2.c1
        have rf := HR2.f
        have HF : Hid (VPost rb s a bad w (.returned (.agg #[.bool false, .string ⟨#[]⟩])) ((w2.setCell ⟨w.heap.size, 0, none⟩ (.bool false)).setCell ⟨w.heap.size, 1, none⟩ (.string ⟨#[]⟩))) := vpost_none (h2.wrap HK1.out (below_set2 (Below.refl _ _) _ (Nat.le_refl _) _ _) HRb.out) HC.out
        clear HR2 h2
        go_wp2
        refine bodyPost_ret (v := .agg #[.bool false, .string ⟨#[]⟩]) (by simp [results, Tryz.results103, go_sem, r0, r1]) rfl ?_
        exact HF.out
      · have n102 : (((seen s a bad).toNat : Int) == 102) = false := by
          simp only [beq_eq_false_iff_ne, ne_eq]
          intro e
          exact h102 (UInt8.toNat_inj.1 (by have e2 : (102 : UInt8).toNat = 102 := rfl; omega))
        have H102 : Hid (seen s a bad ≠ 102) := h102
        clear h102
        by_cases h110 : seen s a bad = 110
        · have HC : Hid (bad = false → value (s.data.toList.drop a) = (word [110, 117, 108, 108] (s.data.toList.drop a)).map fun r => (none, r)) := fun hb => by rw [hb] at h110; exact value_null h110
          rw [h110]
          clear h110 n34 n116 n102
          go_wp2_with fail
          refine (word_went ⟨#[110, 117, 108, 108]⟩ HM1.out HT1.out hg (by decide) (by decide) hs').mono ?_
          rintro e w2 ⟨rfl, a', bd, h2⟩
          have HR2 := HR1.out.only h2.only HNB.out
          obtain ⟨v0, r0⟩ := HR2.c0
          obtain ⟨v1, r1⟩ := HR2.c1
          have rf := HR2.f
          have HF : Hid (VPost rb s a bad w (.returned (.agg #[.bool false, .string ⟨#[]⟩])) ((w2.setCell ⟨w.heap.size, 0, none⟩ (.bool false)).setCell ⟨w.heap.size, 1, none⟩ (.string ⟨#[]⟩))) := vpost_none (h2.wrap HK1.out (below_set2 (Below.refl _ _) _ (Nat.le_refl _) _ _) HRb.out) HC.out
          clear HR2 h2
          go_wp2
          refine bodyPost_ret (v := .agg #[.bool false, .string ⟨#[]⟩]) (by simp [results, Tryz.results103, go_sem, r0, r1]) rfl ?_
          exact HF.out
        · have n110 : (((seen s a bad).toNat : Int) == 110) = false := by
            simp only [beq_eq_false_iff_ne, ne_eq]
            intro e
            exact h110 (UInt8.toNat_inj.1 (by have e2 : (110 : UInt8).toNat = 110 := rfl; omega))
          have H110 : Hid (seen s a bad ≠ 110) := h110
          clear h110
          have HC : Hid (bad = false → value (s.data.toList.drop a) = (number (s.data.toList.drop a)).map fun r => (none, r)) := fun hb => by
            have q1 := H34.out
            have q2 := H116.out
            have q3 := H102.out
            have q4 := H110.out
            rw [hb] at q1 q2 q3 q4
            exact value_num q1 q2 q3 q4
          obtain ⟨u, HU⟩ : ∃ u, Hid (seen s a bad = u) := ⟨_, rfl⟩
          rw [HU.out] at n34 n116 n102 n110 ⊢
          go_wp2_with fail
          refine (number_went HM1.out HT1.out hg hs').mono ?_
          rintro e w2 ⟨rfl, a', bd, h2⟩
          have HR2 := HR1.out.only h2.only HNB.out
          obtain ⟨v0, r0⟩ := HR2.c0
          obtain ⟨v1, r1⟩ := HR2.c1
          have rf := HR2.f
          have HF : Hid (VPost rb s a bad w (.returned (.agg #[.bool false, .string ⟨#[]⟩])) ((w2.setCell ⟨w.heap.size, 0, none⟩ (.bool false)).setCell ⟨w.heap.size, 1, none⟩ (.string ⟨#[]⟩))) := vpost_none (h2.wrap HK1.out (below_set2 (Below.refl _ _) _ (Nat.le_refl _) _ _) HRb.out) HC.out
          clear HR2 h2
          go_wp2
          refine bodyPost_ret (v := .agg #[.bool false, .string ⟨#[]⟩]) (by simp [results, Tryz.results103, go_sem, r0, r1]) rfl ?_
          exact HF.out
end
end Go.Proofs.YtfngjfnakokgmaaGreatDoor.Txt
