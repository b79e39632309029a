/- The fields of a text about a version as the program's map holds them. -/
import Derived.Test.YtfngjfnakokgmaaGreatDoorTextV
import Derived.Maps.OwnSet
namespace Go.Proofs.YtfngjfnakokgmaaGreatDoor.Txt
open Go.RowKit Go.Proofs.YtfngjfnakokgmaaGreatDoor.Sha Go.Maps
/-- How a value (of the type info.value) reads. -/
def valR (v : Value) : Option (DataW Unit × List MemPlace) :=
  match v with
  | .agg cs => match cs.toList with
    | [.bool b, .string t] => some (.agg [.lit (.bool b), .lit (.string t.data.toList)], [])
    | _ => none
  | _ => none
def vdat (b : Bool) (t : Bytes) : DataW Unit := .agg [.lit (.bool b), .lit (.string t)]
def vd : Option Bytes → DataW Unit
  | some t => vdat true t
  | none => vdat false []
theorem valR_mk (b : Bool) (t : Bytes) : valR (.agg #[.bool b, .string ⟨t.toArray⟩]) = some (vdat b t, []) := rfl
theorem valR_inv {v : Value} {d : DataW Unit} {ps : List MemPlace} (h : valR v = some (d, ps)) : ∃ b t, v = .agg #[.bool b, .string t] ∧ d = vdat b t.data.toList := by
  unfold valR at h
  split at h
  · rename_i cs
    split at h
    · rename_i b t he
      injection h with h
      rw [Prod.mk.injEq] at h
      refine ⟨b, t, ?_, h.1.symm⟩
      rw [show cs = #[.bool b, .string t] from by rw [← Array.toArray_toList (xs := cs), he]]
    · cases h
  · cases h
theorem vd_eq {b : Bool} {t : Bytes} {o : Option Bytes} (h : o = if b then some t else none) (hb : b = false → t = []) : vd o = vdat b t := by
  cases b with
  | true => rw [h]; rfl
  | false => rw [h, hb rfl]; rfl
def FM (had : List (Bytes × Option Bytes)) : DataW Unit := had.foldl (fun m q => m.put (.string q.1) (vd q.2)) (.map [])
theorem FM_snoc (had : List (Bytes × Option Bytes)) (q : Bytes × Option Bytes) : FM (had ++ [q]) = (FM had).put (.string q.1) (vd q.2) := by simp [FM, List.foldl_append]
theorem FM_isMap (had : List (Bytes × Option Bytes)) : IsMap (FM had) := by
  have h : ∀ (l : List (Bytes × Option Bytes)) (m : DataW Unit), IsMap m → IsMap (l.foldl (fun m q => m.put (.string q.1) (vd q.2)) m) := by
    intro l
    induction l with
    | nil => intro m h; exact h
    | cons q l ih => intro m h; exact ih _ (h.put _ _)
  exact h had _ isMap_empty
theorem key_lit (t : Bytes) : WideAt.IsKeyLit (.string t) := by simp [WideAt.IsKeyLit]
/-- A list from its end. -/
theorem snoc_ind {α : Type} {P : List α → Prop} (h0 : P []) (h1 : ∀ l x, P l → P (l ++ [x])) (l : List α) : P l := by
  have h : ∀ r : List α, P r.reverse := by
    intro r
    induction r with
    | nil => exact h0
    | cons x r ih => rw [List.reverse_cons]; exact h1 _ _ ih
  have := h l.reverse
  rwa [List.reverse_reverse] at this
theorem has_FM (nm : Bytes) (had : List (Bytes × Option Bytes)) : Maps.has (FM had) (.string nm) = had.any (fun q => q.1 == nm) := by
  induction had using snoc_ind with
  | h0 => rfl
  | h1 l x ih =>
    rw [FM_snoc, List.any_append]
    by_cases h : x.1 = nm
    · subst h
      rw [Maps.has_put_same (FM_isMap l) (key_lit _)]
      simp
    · rw [Maps.has_put_other (by intro e; injection e with e; exact h e.symm), ih]
      simp [h]
/-- The last value of a name. -/
def last (nm : Bytes) (had : List (Bytes × Option Bytes)) : Option Bytes := had.foldl (fun acc q => if q.1 = nm then q.2 else acc) none
theorem last_snoc (nm : Bytes) (had : List (Bytes × Option Bytes)) (q : Bytes × Option Bytes) : last nm (had ++ [q]) = if q.1 = nm then q.2 else last nm had := by simp [last, List.foldl_append]
theorem atKey_FM (nm : Bytes) (had : List (Bytes × Option Bytes)) : (FM had).atKey (.string nm) (vdat false []) = vd (last nm had) := by
  induction had using snoc_ind with
  | h0 => rfl
  | h1 l x ih =>
    rw [FM_snoc, last_snoc]
    by_cases h : x.1 = nm
    · subst h
      rw [Maps.atKey_put_same (FM_isMap l) (key_lit _), if_pos rfl]
    · rw [Maps.atKey_put_other (by intro e; injection e with e; exact h e.symm), ih, if_neg h]
theorem zeroVal (w : World) : (zeroValue 110).run Tryz.prog w = .ok (.agg #[.bool false, .string ⟨#[]⟩]) w := by kernel_rfl
theorem strLaw : Keyed Tryz.prog 9 := string_keyed Tryz.underlying9
/-- The map at block mb, of at most n fields. -/
abbrev MapAt (mb n : Nat) (D : DataW Unit) (w : World) : Prop := w.ownsMap Tryz.prog 9 valR mb n D
theorem mapAt_only {S : Nat → Prop} {mb n : Nat} {D : DataW Unit} {w w' : World} (h : MapAt mb n D w) (hk : Only S w w') (hn : ¬ S mb) : MapAt mb n D w' := by
  have hl := h.lt
  obtain ⟨es, clock, hb, F, hs, hD⟩ := h
  exact ⟨es, clock, (hk.block mb hl hn).trans hb, F, hs, hD⟩
theorem only_of_grown {mb : Nat} {w w' : World} (h : w.grownBy w' (some mb)) : Only (· = mb) w w' := ⟨h.os, h.tape, h.output, h.size, fun k hk hn => h.block k hk (fun e => hn (by injection e))⟩
theorem key_of (t : Bytes) (h : t.length ≤ maxLen) : keyOf Tryz.prog 9 (.string ⟨t.toArray⟩) = some (.string t) := by
  have := WideMaps.keyOf_string_mk (P := Tryz.prog) (s := ⟨t.toArray⟩) Tryz.underlying9 (by show t.toArray.size ≤ maxLen; simpa using h)
  simpa using this
end Go.Proofs.YtfngjfnakokgmaaGreatDoor.Txt
/- The reader takes a field into the map. -/
namespace Go.Proofs.YtfngjfnakokgmaaGreatDoor.Txt
open Go.RowKit Go.Proofs.YtfngjfnakokgmaaGreatDoor.Sha Go.Maps
theorem field_map (l : Bytes) : (field l).map (·.2) = ((((quoted l).map (·.2)).bind (mark 58)).bind fun r => (value r).map (·.2)).bind fun r => some (skip r) := by
  unfold field
  cases quoted l with
  | none => rfl
  | some p =>
    simp only [Option.bind_some, Option.map_some]
    cases mark 58 p.2 with
    | none => rfl
    | some r =>
      simp only [Option.bind_some]
      cases value r with
      | none => rfl
      | some q => rfl
theorem RD.of_only {S : Nat → Prop} {rb : Nat} {s : ByteArray} {a : Nat} {bad : Bool} {w w' : World} (h : RD rb s a bad w) (hk : Only S w w') (hn : ¬ S rb) : RD rb s a bad w' := by
  have g : ∀ j, w'.cell? ⟨rb, j, none⟩ = w.cell? ⟨rb, j, none⟩ := fun j => hk.cell (p := ⟨rb, j, none⟩) h.lt hn
  have hb := hk.block rb h.lt hn
  obtain ⟨ev, he, hbad⟩ := h.c2
  refine ⟨by rw [g]; exact h.c0, by rw [g]; exact h.c1, ⟨ev, by rw [g]; exact he, hbad⟩, fun j => ?_, Nat.lt_of_lt_of_le h.lt hk.size, h.le⟩
  have e : w'.frozen? ⟨rb, j, none⟩ = w.frozen? ⟨rb, j, none⟩ := by simp only [World.frozen?, hb]
  rw [e]; exact h.fro j
section
variable {rb : Nat} {s : ByteArray} {a : Nat} {bad : Bool} {w : World}
theorem field_end {a1 a2 a3 a4 : Nat} {b1 b2 b3 b4 : Bool} {t tv : Bytes} {bv : Bool} {w1 w2 w3 w3' w4 : World}
    (h1 : Went rb s bad ((quoted (s.data.toList.drop a)).map (·.2)) a1 b1 w w1) (hq : bad = false → ∀ q, quoted (s.data.toList.drop a) = some q → t = q.1)
    (h2 : Went rb s b1 (mark 58 (s.data.toList.drop a1)) a2 b2 w1 w2)
    (h3 : Went rb s b2 ((value (s.data.toList.drop a2)).map (·.2)) a3 b3 w2 w3) (hv : b2 = false → ∀ q, value (s.data.toList.drop a2) = some q → q.1 = if bv then some tv else none) (hv0 : bv = false → tv = [])
    (hb : Below w.heap.size w3 w3') (hr : rb < w.heap.size)
    (h4 : Went rb s b3 (some (skip (s.data.toList.drop a3))) a4 b4 w3' w4) :
    Went rb s bad ((field (s.data.toList.drop a)).map (·.2)) a4 b4 w w4 ∧ (bad = false → ∀ p, field (s.data.toList.drop a) = some p → t = p.1.1 ∧ vdat bv tv = vd p.1.2) := by
  have h12 := h1.trans h2
  have h123 := h12.trans (f := fun r => (value r).map (·.2)) h3
  have h123' : Went rb s bad _ a3 b3 w w3' := Went.wrap (Only.refl _ _) h123 hb hr
  have h1234 := h123'.trans (f := fun r => some (skip r)) h4
  refine ⟨by rw [field_map]; exact h1234, fun hb p hp => ?_⟩
  unfold field at hp
  obtain ⟨q, hq0, hp⟩ := Option.bind_eq_some_iff.1 hp
  obtain ⟨r, hr0, hp⟩ := Option.bind_eq_some_iff.1 hp
  obtain ⟨u, hu, hp⟩ := Option.map_eq_some_iff.1 hp
  obtain ⟨e1, e2⟩ := h12.yes r hb (by rw [hq0]; exact hr0)
  rw [← e2] at hu
  rw [← hp]
  exact ⟨hq hb q hq0, (vd_eq (hv e1 u hu) hv0).symm⟩
/-- What field leaves. -/
def FPost (rb mb n : Nat) (s : ByteArray) (had : List (Bytes × Option Bytes)) (a : Nat) (bad : Bool) (w : World) (e : Ending) (w' : World) : Prop :=
  ∃ (a' : Nat) (bd : Bool) (D' : DataW Unit), e = .returned (.tuple #[]) ∧ RD rb s a' bd w' ∧ Only (fun k => k = rb ∨ k = mb) w w' ∧ MapAt mb (n + 1) D' w' ∧ (bad = true → bd = true) ∧
    (bad = false → ∀ p r, field (s.data.toList.drop a) = some (p, r) → had.any (fun q => q.1 == p.1) = false → bd = false ∧ s.data.toList.drop a' = r ∧ D' = FM (had ++ [p])) ∧
    (bad = false → ∀ p r, field (s.data.toList.drop a) = some (p, r) → had.any (fun q => q.1 == p.1) = true → bd = true) ∧
    (bad = false → field (s.data.toList.drop a) = none → bd = true)
theorem field_walk {mb n : Nat} {D : DataW Unit} (had : List (Bytes × Option Bytes)) (h : RD rb s a bad w) (hW : TxtW w) (hM : MapAt mb n D w) (hD : bad = false → D = FM had) (hn : n < maxLen) (hg : 29 ≤ rb) (hne : mb ≠ rb) (hs : s.size ≤ 140737488355327) :
    Calls Tryz.prog 83 #[.pointer (some ⟨rb, 0, none⟩), .map (some mb)] w fun e w' => FPost rb mb n s had a bad w e w' := by
  have hrb := h.lt
  have HRb : Hid (rb < w.heap.size) := hrb
  have HS : Hid (∀ k, k = rb → 29 ≤ k) := fun k hk => by rw [hk]; exact hg
  have HNM : Hid (¬ (mb = rb)) := hne
  have HND : Hid (bad = false → D = FM had) := hD
  have hs' : s.size ≤ 140737488355328 := by omega
  have HT : Hid (TxtW w) := hW
  have HH : Hid (RD rb s a bad w) := h
  have HM : Hid (MapAt mb n D w) := hM
  have HN : Hid (n < maxLen) := hn
  clear hW h hM hD hn hrb hne
  go_enter Tryz.func83, Tryz.ntmps83
  go_wp2_with fail
  refine (quoted_walk HH.out HT.out hg hs).mono ?_
  rintro e w1 ⟨t, a1, b1, rfl, htl, h1, hq1⟩
  have H1 : Hid (Went rb s bad ((quoted (s.data.toList.drop a)).map (·.2)) a1 b1 w w1) := h1
  have HQ1 : Hid (bad = false → ∀ q, quoted (s.data.toList.drop a) = some q → t = q.1) := hq1
  have HT1 : Hid (TxtW w1) := HT.out.only h1.only HS.out
  have HM1 : Hid (MapAt mb n D w1) := mapAt_only HM.out h1.only HNM.out
  have HKey : Hid (keyOf Tryz.prog 9 (.string ⟨t.toArray⟩) = some (.string t)) := key_of t (by unfold maxLen; omega)
  clear h1 hq1 HM htl
  go_wp2_with fail
  refine (mark_went 58 H1.out.rd HT1.out hg (by decide) hs').mono ?_
  rintro e w2 ⟨rfl, a2, b2, h2⟩
  have H2 : Hid (Went rb s b1 (mark 58 (s.data.toList.drop a1)) a2 b2 w1 w2) := h2
  have HT2 : Hid (TxtW w2) := HT1.out.only h2.only HS.out
  have HM2 : Hid (MapAt mb n D w2) := mapAt_only HM1.out h2.only HNM.out
  clear h2 HM1 HT1
  go_wp2_with fail
  refine (value_walk H2.out.rd HT2.out hg hs).mono ?_
  rintro e w3 ⟨bv, tv, a3, b3, rfl, htv, h3, hv3, hv0⟩
  have H3 : Hid (Went rb s b2 ((value (s.data.toList.drop a2)).map (·.2)) a3 b3 w2 w3) := h3
  have HV3 : Hid (b2 = false → ∀ q, value (s.data.toList.drop a2) = some q → q.1 = if bv then some tv else none) := hv3
  have HV0 : Hid (bv = false → tv = []) := hv0
  have HT3 : Hid (TxtW w3) := HT2.out.only h3.only HS.out
  have HM3 : Hid (MapAt mb n D w3) := mapAt_only HM2.out h3.only HNM.out
  have hb3 := below_one w3 (.cells #[.bool bv, .string ⟨tv.toArray⟩] 110)
  have HM3a : Hid (MapAt mb n D (w3.alloc (.cells #[.bool bv, .string ⟨tv.toArray⟩] 110))) := HM3.out.alloc _
  have HR3a : Hid (RD rb s a3 b3 (w3.alloc (.cells #[.bool bv, .string ⟨tv.toArray⟩] 110))) := h3.rd.of_below hb3 h3.rd.lt
  clear h3 hv3 hv0 htv HM2 HT2 hb3
  go_wp2_with fail
  refine (blanks_went HR3a.out hs').mono ?_
  rintro e w4 ⟨rfl, a4, b4, h4⟩
  obtain ⟨B, HB⟩ : ∃ B, Hid (w3.heap.size = B) := ⟨_, rfl⟩
  rw [HB.out]
  have HNB : Hid (¬ (B = rb)) := fun e => by have := HB.out; have := H3.out.rd.lt; omega
  have HBl : Hid (w.heap.size ≤ B) := by rw [← HB.out]; exact Nat.le_trans (Nat.le_trans H1.out.only.size H2.out.only.size) H3.out.only.size
  have HF4 := field_end H1.out HQ1.out H2.out H3.out HV3.out HV0.out ((Below.refl w.heap.size w3).alloc (by rw [HB.out]; exact HBl.out) _) HRb.out h4
  have H4 : Hid (Went rb s bad ((field (s.data.toList.drop a)).map (·.2)) a4 b4 w w4) := HF4.1
  have HP4 : Hid (bad = false → ∀ p, field (s.data.toList.drop a) = some p → t = p.1.1 ∧ vdat bv tv = vd p.1.2) := HF4.2
  have HM4 : Hid (MapAt mb n D w4) := mapAt_only HM3a.out h4.only HNM.out
  have HT4 : Hid (TxtW w4) := HT.out.only HF4.1.only HS.out
  have hl3 : B < (w3.alloc (.cells #[.bool bv, .string ⟨tv.toArray⟩] 110)).heap.size := by rw [← HB.out]; simp
  have q0 : w4.cell? ⟨B, 0, none⟩ = some (.bool bv) := by rw [h4.only.cell (p := ⟨B, 0, none⟩) hl3 HNB.out, ← HB.out]; simp
  have q1 : w4.cell? ⟨B, 1, none⟩ = some (.string ⟨tv.toArray⟩) := by rw [h4.only.cell (p := ⟨B, 1, none⟩) hl3 HNB.out, ← HB.out]; simp
  have HBlt : Hid (B < w4.heap.size) := Nat.lt_of_lt_of_le hl3 h4.only.size
  clear h4 HF4 hl3 HM3 HM3a HR3a HT3 H1 H2 H3 HQ1 HV3 HV0
  obtain ⟨v, ps, hlk, hvR⟩ := HM4.out.look_ok strLaw Tryz.underlying106 (zeroVal w4) (valR_mk false []) HKey.out
  obtain ⟨lb, lt, rfl, -⟩ := valR_inv hvR
  clear hvR
  have hb4 := below_one w4 (.cells #[.bool lb, .string lt] 110)
  have HM4a : Hid (MapAt mb n D (w4.alloc (.cells #[.bool lb, .string lt] 110))) := HM4.out.alloc _
  have HR4a : Hid (RD rb s a4 b4 (w4.alloc (.cells #[.bool lb, .string lt] 110))) := H4.out.rd.of_below hb4 H4.out.rd.lt
  have HK4a : Hid (Only (· = rb) w (w4.alloc (.cells #[.bool lb, .string lt] 110))) := H4.out.only.then_below (hb4.mono H4.out.only.size)
  have q0a : (w4.alloc (.cells #[.bool lb, .string lt] 110)).cell? ⟨B, 0, none⟩ = some (.bool bv) := by rw [hb4.cell (p := ⟨B, 0, none⟩) HBlt.out]; exact q0
  have q1a : (w4.alloc (.cells #[.bool lb, .string lt] 110)).cell? ⟨B, 1, none⟩ = some (.string ⟨tv.toArray⟩) := by rw [hb4.cell (p := ⟨B, 1, none⟩) HBlt.out]; exact q1
  have HT4a : Hid (TxtW (w4.alloc (.cells #[.bool lb, .string lt] 110))) := HT.out.only HK4a.out HS.out
  have HL4 : Hid (B < (w4.alloc (.cells #[.bool lb, .string lt] 110)).heap.size) := Nat.lt_of_lt_of_le HBlt.out hb4.size
  clear q0 q1 HM4 hb4 HBlt HT4
  cases hh : Maps.has D (.string t) with
  | true =>
    rw [hh] at hlk
    have HHas : Hid (Maps.has D (.string t) = true) := hh
    clear hh
    obtain ⟨x, hx⟩ := HT4a.out.twice
    go_wp2_with fail
    refine (fail_walk x HR4a.out).mono ?_
    rintro e w5 ⟨rfl, h5, k5⟩
    have HM5 : Hid (MapAt mb n D w5) := mapAt_only HM4a.out k5 HNM.out
    have HR5 : Hid (RD rb s a4 true w5) := h5
    have HK5 : Hid (Only (· = rb) w w5) := HK4a.out.trans k5
    have p0 : w5.cell? ⟨B, 0, none⟩ = some (.bool bv) := by rw [k5.cell (p := ⟨B, 0, none⟩) HL4.out HNB.out]; exact q0a
    have p1 : w5.cell? ⟨B, 1, none⟩ = some (.string ⟨tv.toArray⟩) := by rw [k5.cell (p := ⟨B, 1, none⟩) HL4.out HNB.out]; exact q1a
    clear h5 k5 q0a q1a hx HM4a HR4a HK4a HT4a hlk
    go_wp2_with (at_mapUpdate; refine wpList_mapUpdate_own _ rfl _ _ _ 106 rfl 9 110 strLaw Tryz.underlying106 valR mb n D rfl HM5.out HN.out _ _ (.string t) rfl rfl HKey.out (vdat bv tv) [] (valR_mk bv tv) ?_)
    intro w6 hM6 hg6
    have HF : Hid (FPost rb mb n s had a bad w (.returned (.tuple #[])) w6) := by
      have kg := only_of_grown hg6
      refine ⟨a4, true, _, rfl, HR5.out.of_only kg (fun e => HNM.out e.symm), (HK5.out.mono (fun k hk => .inl hk)).trans (kg.mono fun k hk => .inr hk), hM6, fun _ => rfl, fun hb p r hp hf => ?_, fun _ _ _ _ _ => rfl, fun _ _ => rfl⟩
      have e1 := HHas.out
      rw [HND.out hb, has_FM, (HP4.out hb _ hp).1, hf] at e1
      cases e1
    clear hM6 hg6
    go_wp2
    go_end0
    exact HF.out
  | false =>
    rw [hh] at hlk
    have HHas : Hid (Maps.has D (.string t) = false) := hh
    clear hh
    go_wp2_with (at_mapUpdate; refine wpList_mapUpdate_own _ rfl _ _ _ 106 rfl 9 110 strLaw Tryz.underlying106 valR mb n D rfl HM4a.out HN.out _ _ (.string t) rfl rfl HKey.out (vdat bv tv) [] (valR_mk bv tv) ?_)
    intro w5 hM5 hg5
    have HF : Hid (FPost rb mb n s had a bad w (.returned (.tuple #[])) w5) := by
      have kg := only_of_grown hg5
      refine ⟨a4, b4, _, rfl, HR4a.out.of_only kg (fun e => HNM.out e.symm), (HK4a.out.mono (fun k hk => .inl hk)).trans (kg.mono fun k hk => .inr hk), hM5, H4.out.was, fun hb p r hp hf => ?_, fun hb p r hp hf => ?_, fun hb hp => H4.out.no hb (by rw [hp]; rfl)⟩
      · obtain ⟨e1, e2⟩ := H4.out.yes r hb (by rw [hp]; rfl)
        obtain ⟨e3, e4⟩ := HP4.out hb _ hp
        refine ⟨e1, e2, ?_⟩
        rw [FM_snoc, HND.out hb, e3, e4]
      · have e1 := HHas.out
        rw [HND.out hb, has_FM, (HP4.out hb _ hp).1, hf] at e1
        cases e1
    clear hM5 hg5
    go_wp2
    go_end0
    exact HF.out
end
end Go.Proofs.YtfngjfnakokgmaaGreatDoor.Txt
/- The fields of an object, one behind the other: what the loop keeps. Plain lists, and what the reader tells of them. -/
namespace Go.Proofs.YtfngjfnakokgmaaGreatDoor.Txt
open Go.RowKit Go.Proofs.YtfngjfnakokgmaaGreatDoor.Sha Go.Maps
abbrev Fields := List (Bytes × Option Bytes)
/-- Behind a field: another one, or the end. -/
def behind (had : Fields) : Bytes → Option (Fields × Bytes)
  | [] => none
  | c :: r => if c = 44 then fields (skip r).length had (skip r) else if c = 125 then some (had, skip r) else none
theorem fields_step (had : Fields) (l : Bytes) : fields l.length had l = (field l).bind fun p => if had.any (fun q => q.1 == p.1.1) then none else behind (had ++ [p.1]) p.2 := by
  cases l with
  | nil => rfl
  | cons c t =>
    show fields (t.length + 1) had (c :: t) = _
    unfold fields
    cases hf : field (c :: t) with
    | none => rfl
    | some p =>
      obtain ⟨q, r⟩ := p
      have h1 := field_lt hf
      simp only [Option.bind_some]
      split
      · rfl
      · cases r with
        | nil => rfl
        | cons d u =>
          simp only [behind]
          split
          · have h2 := skip_le u
            have h3 : u.length < t.length := by simp at h1; omega
            exact fields_more _ _ _ _ (by omega) (Nat.le_refl _)
          · rfl
/-- Nothing may stand behind an object. -/
def ended (q : Fields × Bytes) : Option Fields := if q.2 = [] then some q.1 else none
theorem object_mark (l : Bytes) : object l = (mark 123 l).bind fun r => match r with
    | [] => none
    | c :: t => if c = 125 then (behind [] (c :: t)).bind ended else (fields (c :: t).length [] (c :: t)).bind ended := by
  unfold object
  cases mark 123 l with
  | none => rfl
  | some r =>
    cases r with
    | nil => rfl
    | cons c t =>
      simp only [Option.bind_some]
      split
      · rename_i h
        subst h
        rfl
      · rfl
theorem mark_skip {c : UInt8} {l r : Bytes} (h : mark c l = some r) : skip r = r := by
  unfold mark at h
  obtain ⟨q, _, he⟩ := Option.map_eq_some_iff.1 h
  rw [← he, skip_skip]
theorem field_skip {l r : Bytes} {p : Bytes × Option Bytes} (h : field l = some (p, r)) : skip r = r := by
  unfold field at h
  obtain ⟨q, _, h⟩ := Option.bind_eq_some_iff.1 h
  obtain ⟨m, _, h⟩ := Option.bind_eq_some_iff.1 h
  obtain ⟨v, _, h⟩ := Option.map_eq_some_iff.1 h
  rw [Prod.mk.injEq] at h
  rw [← h.2, skip_skip]
theorem behind_fin {had : Fields} {l : Bytes} (hs : skip l = l) (h : ∀ c r, l = c :: r → c ≠ 44) : behind had l = (mark 125 l).map fun r => (had, r) := by
  unfold mark
  rw [hs]
  cases l with
  | nil => rfl
  | cons c r =>
    rw [behind, if_neg (h c r rfl), want]
    by_cases h2 : c = 125
    · rw [if_pos h2, if_pos h2]; rfl
    · rw [if_neg h2, if_neg h2]; rfl
theorem behind_comma {had : Fields} {l r : Bytes} (hl : l = 44 :: r) : mark 44 l = some (skip r) ∧ behind had l = fields (skip r).length had (skip r) := by
  subst hl
  refine ⟨?_, by rw [behind, if_pos rfl]⟩
  unfold mark
  rw [skip_cons_other r (by decide), want, if_pos rfl]; rfl
/-- What the loop over the fields keeps: O is what the whole text tells. -/
structure OI (s : ByteArray) (O : Option Fields) (n : Nat) (D : DataW Unit) (p : Nat) (bd : Bool) (had : Fields) : Prop where
  good : bd = false → O = (behind had (s.data.toList.drop p)).bind ended ∧ D = FM had ∧ skip (s.data.toList.drop p) = s.data.toList.drop p ∧ n ≤ p
  bad : bd = true → O = none
/-- Is there a fault? by what lies in memory. -/
def badOf (rb : Nat) (w : World) : Bool := match w.cell? ⟨rb, 2, none⟩ with
  | some .nilIface => false
  | _ => true
theorem RD.badOf {rb : Nat} {s : ByteArray} {a : Nat} {bad : Bool} {w : World} (h : RD rb s a bad w) : badOf rb w = bad := by
  obtain ⟨ev, he, hb⟩ := h.c2
  unfold Txt.badOf
  rw [he]
  cases bad with
  | false => cases hb; rfl
  | true => obtain ⟨x, rfl⟩ := hb; rfl
def meas (rb : Nat) (s : ByteArray) (w : World) : Nat := if badOf rb w then 0 else s.size - atOf rb w + 1
theorem meas_lt {rb : Nat} {s : ByteArray} {p p' : Nat} {bd : Bool} {w w' : World} (h : RD rb s p false w) (h' : RD rb s p' bd w') (hp : bd = false → p < p') : meas rb s w' < meas rb s w := by
  unfold meas
  rw [h.badOf, h'.badOf, h.atOf, h'.atOf]
  have := h'.le
  cases bd with
  | true => simp
  | false => have := hp rfl; simp; omega
theorem Only.drop_new {S T : Nat → Prop} {w w' : World} (h : Only S w w') (hs : ∀ k, S k → T k ∨ w.heap.size ≤ k) : Only T w w' :=
  ⟨h.os, h.tape, h.output, h.size, fun k hk hn => h.block k hk (fun e => (hs k e).elim hn (fun q => by omega))⟩
section
variable {rb : Nat} {s : ByteArray} {a : Nat} {bad : Bool} {w : World}
theorem drop_lt {p p' : Nat} (h : (s.data.toList.drop p').length < (s.data.toList.drop p).length) : p < p' := by
  rw [List.length_drop, List.length_drop] at h; omega
/-- Behind a field that was asked for where `fields` stood. -/
theorem OI.field {O : Option Fields} {n : Nat} {p p' : Nat} {bd : Bool} {had : Fields} {D' : DataW Unit} {b : Bool} (hO : b = false → O = (fields (s.data.toList.drop p).length had (s.data.toList.drop p)).bind ended) (hO' : b = true → O = none) (hn : b = false → n ≤ p)
    (hwas : b = true → bd = true)
    (h1 : b = false → ∀ q r, field (s.data.toList.drop p) = some (q, r) → had.any (fun x => x.1 == q.1) = false → bd = false ∧ s.data.toList.drop p' = r ∧ D' = FM (had ++ [q]))
    (h2 : b = false → ∀ q r, field (s.data.toList.drop p) = some (q, r) → had.any (fun x => x.1 == q.1) = true → bd = true)
    (h3 : b = false → field (s.data.toList.drop p) = none → bd = true) : ∃ had', OI s O (n + 1) D' p' bd had' ∧ (b = false → bd = false → p < p') := by
  cases hb : b with
  | true =>
    exact ⟨had, ⟨fun e => (by rw [hwas hb] at e; cases e), fun _ => hO' hb⟩, fun e => by cases e⟩
  | false =>
    have hO := hO hb
    rw [fields_step] at hO
    cases hf : Txt.field (s.data.toList.drop p) with
    | none =>
      rw [hf] at hO
      exact ⟨had, ⟨fun e => (by rw [h3 hb hf] at e; cases e), fun _ => hO⟩, fun _ e => by rw [h3 hb hf] at e; cases e⟩
    | some q =>
      obtain ⟨q, r⟩ := q
      rw [hf] at hO
      simp only [Option.bind_some] at hO
      cases hd : had.any (fun x => x.1 == q.1) with
      | true =>
        rw [hd, if_pos rfl] at hO
        have e := h2 hb q r hf hd
        exact ⟨had, ⟨fun e' => (by rw [e] at e'; cases e'), fun _ => hO⟩, fun _ e' => by rw [e] at e'; cases e'⟩
      | false =>
        rw [hd, if_neg (by decide)] at hO
        obtain ⟨e1, e2, e3⟩ := h1 hb q r hf hd
        have hlt : p < p' := drop_lt (s := s) (by rw [e2]; exact field_lt hf)
        have hn := hn hb
        refine ⟨had ++ [q], ⟨fun _ => ⟨by rw [e2]; exact hO, e3, by rw [e2]; exact field_skip hf, by omega⟩, fun e => (by rw [e1] at e; cases e)⟩, fun _ _ => hlt⟩
end
end Go.Proofs.YtfngjfnakokgmaaGreatDoor.Txt
