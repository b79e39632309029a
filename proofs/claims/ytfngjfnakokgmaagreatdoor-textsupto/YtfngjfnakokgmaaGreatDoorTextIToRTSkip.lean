/- info.read, info.Read, satchel.Info: what they answer of every text. -/
import Derived.Test.YtfngjfnakokgmaaGreatDoorTextOToTextR
import Derived.Test.YtfngjfnakokgmaaGreatDoorPartsToComp
import Derived.Test.YtfngjfnakokgmaaGreatDoorSent
import Derived.StillTailTactics
import Derived.Test.YtfngjfnakokgmaaGreatDoorBookAToTextStep
import Derived.Test.YtfngjfnakokgmaaGreatDoorBaseToShaOwn
namespace Go.Proofs.YtfngjfnakokgmaaGreatDoor.Txt
open Go.RowKit Go.Proofs.YtfngjfnakokgmaaGreatDoor.Sha Go.Maps
def nVersion : Bytes := [86, 101, 114, 115, 105, 111, 110]
def nTime : Bytes := [84, 105, 109, 101]
/-- What a text tells about a version: Version and Time. -/
def infoP (l : Bytes) : Option (Bytes × Bytes) := (object l).bind fun f => (last nVersion f).bind fun v => if parseV v = none then none else some (v, (last nTime f).getD [])
/-- The variables that Info reads. -/
structure InfoW (ad : Nat → Addr) (m : Int) (w : World) : Prop where
  txt : TxtW w
  ver : VerW (ad 0) (ad 4) m w
  sent : Sent ad w
theorem InfoW.below {ad : Nat → Addr} {m : Int} {w w' : World} (h : InfoW ad m w) (hb : Below w.heap.size w w') : InfoW ad m w' :=
  ⟨h.txt.only (S := fun _ => False) (Only.of_below hb) (fun _ e => e.elim), h.ver.below hb, h.sent.below hb⟩
theorem mapAt_below {mb n : Nat} {D : DataW Unit} {w w' : World} (h : MapAt mb n D w) (hb : Below w.heap.size w w') : MapAt mb n D w' := mapAt_only (S := fun _ => False) h (Only.of_below hb) (fun e => e)
/-- How info.read ends. -/
def IEnd (l : Bytes) (e : Ending) : Prop :=
  (∃ v t, infoP l = some (v, t) ∧ e = .returned (.tuple #[.agg #[.string ⟨v.toArray⟩, .string ⟨t.toArray⟩], .nilIface])) ∨
  (infoP l = none ∧ ∃ T x, e = .returned (.tuple #[.agg #[.string ⟨#[]⟩, .string ⟨#[]⟩], .iface T x]))
theorem vdat_inj {b : Bool} {t : Bytes} {o : Option Bytes} (h : vdat b t = vd o) : (b = true → o = some t) ∧ (b = false → o = none) ∧ t = o.getD [] := by
  cases o with
  | none =>
    unfold vd vdat at h
    simp only [DataW.agg.injEq, List.cons.injEq, DataW.lit.injEq, Lit.bool.injEq, Lit.string.injEq, and_true] at h
    obtain ⟨rfl, rfl⟩ := h
    exact ⟨fun e => (by cases e), fun _ => rfl, rfl⟩
  | some u =>
    unfold vd vdat at h
    simp only [DataW.agg.injEq, List.cons.injEq, DataW.lit.injEq, Lit.bool.injEq, Lit.string.injEq, and_true] at h
    obtain ⟨rfl, rfl⟩ := h
    exact ⟨fun _ => rfl, fun e => (by cases e), rfl⟩
theorem ba_of (t : ByteArray) : t = ⟨t.data.toList.toArray⟩ := by cases t; rfl
/-- A look-up in the map of the fields. -/
theorem look_field {mb n : Nat} {f : Fields} {w : World} (h : MapAt mb n (FM f) w) (nm : Bytes) (hn : nm.length ≤ maxLen) : ∃ (b : Bool) (t : Bytes), (Instr.lookup 106 (.map (some mb)) (.string ⟨nm.toArray⟩) false).run Tryz.prog w = .ok (.agg #[.bool b, .string ⟨t.toArray⟩]) w ∧ (b = true → last nm f = some t) ∧ (b = false → last nm f = none) ∧ t = (last nm f).getD [] := by
  obtain ⟨v, ps, hrun, hv⟩ := h.lookup strLaw Tryz.underlying106 (zeroVal w) (valR_mk false []) (key_of nm hn)
  rw [atKey_FM] at hv
  obtain ⟨b, t, rfl, hd⟩ := valR_inv hv
  obtain ⟨h1, h2, h3⟩ := vdat_inj hd.symm
  exact ⟨b, t.data.toList, by rw [hrun, ← ba_of t], h1, h2, h3⟩
/-! how long the texts of an object may be -/
theorem value_size {l r u : Bytes} (h : value l = some (some u, r)) : u.length ≤ l.length := by
  cases l with
  | nil => cases h
  | cons c l =>
    rw [value] at h
    split at h
    · obtain ⟨p, hp, he⟩ := Option.map_eq_some_iff.1 h
      have := chars_size _ l p.1 p.2 (Nat.le_refl _) hp
      rw [Prod.mk.injEq, Option.some.injEq] at he
      rw [← he.1]; simp; omega
    repeat
      split at h
      · obtain ⟨q, _, he⟩ := Option.map_eq_some_iff.1 h
        rw [Prod.mk.injEq] at he
        cases he.1
    obtain ⟨q, _, he⟩ := Option.map_eq_some_iff.1 h
    rw [Prod.mk.injEq] at he
    cases he.1
theorem field_size {l r : Bytes} {p : Bytes × Option Bytes} (h : field l = some (p, r)) : ∀ u, p.2 = some u → u.length ≤ l.length := by
  unfold field at h
  obtain ⟨q, hq, h⟩ := Option.bind_eq_some_iff.1 h
  obtain ⟨m, hm, h⟩ := Option.bind_eq_some_iff.1 h
  obtain ⟨v, hv, h⟩ := Option.map_eq_some_iff.1 h
  rw [Prod.mk.injEq] at h
  intro u hu
  rw [← h.1] at hu
  have h1 := quoted_lt l q.1 q.2 hq
  have h2 := mark_lt hm
  have h3 := value_size (l := m) (r := v.2) (u := u) (by rw [hv, ← hu])
  omega
theorem fields_size : ∀ (n : Nat) (had : Fields) (l r : Bytes) (f : Fields) (N : Nat), l.length ≤ N → (∀ q ∈ had, ∀ u, q.2 = some u → u.length ≤ N) → fields n had l = some (f, r) → ∀ q ∈ f, ∀ u, q.2 = some u → u.length ≤ N
  | 0, _, _, _, _, _, _, _, h => by cases h
  | n + 1, had, l, r, f, N, hl, hh, h => by
    unfold fields at h
    obtain ⟨p, hp, h⟩ := Option.bind_eq_some_iff.1 h
    have h1 := field_lt (r := p.2) (p := p.1) hp
    have hh' : ∀ q ∈ had ++ [p.1], ∀ u, q.2 = some u → u.length ≤ N := by
      intro q hq
      rcases List.mem_append.1 hq with hq | hq
      · exact hh q hq
      · rw [List.mem_singleton.1 hq]
        intro u hu
        have := field_size (r := p.2) (p := p.1) hp u hu
        omega
    split at h
    · cases h
    · split at h
      · cases h
      · rename_i c t hr
        rw [hr] at h1
        have h2 := skip_le t
        simp only [List.length_cons] at h1
        split at h
        · exact fields_size n _ (skip t) r f N (by omega) hh' h
        · split at h
          · injection h with h
            rw [Prod.mk.injEq] at h
            rw [← h.1]; exact hh'
          · cases h
theorem object_size {l : Bytes} {f : Fields} (h : object l = some f) : ∀ q ∈ f, ∀ u, q.2 = some u → u.length ≤ l.length := by
  unfold object at h
  obtain ⟨r, hr, h⟩ := Option.bind_eq_some_iff.1 h
  have hm := mark_lt hr
  split at h
  · cases h
  · split at h
    · split at h
      · injection h with h; rw [← h]; intro q hq; cases hq
      · cases h
    · obtain ⟨p, hp, h⟩ := Option.bind_eq_some_iff.1 h
      split at h
      · injection h with h
        rw [← h]
        exact fields_size _ [] _ p.2 p.1 l.length (by omega) (fun q hq => by cases hq) hp
      · cases h
theorem last_mem (nm : Bytes) (f : Fields) (u : Bytes) (h : last nm f = some u) : ∃ q ∈ f, q.2 = some u := by
  induction f using snoc_ind with
  | h0 => cases h
  | h1 l x ih =>
    rw [last_snoc] at h
    split at h
    · exact ⟨x, by simp, h⟩
    · obtain ⟨q, hq, e⟩ := ih h
      exact ⟨q, by simp [hq], e⟩
theorem last_size {l : Bytes} {f : Fields} (h : object l = some f) (nm : Bytes) : ((last nm f).getD []).length ≤ l.length := by
  cases hl : last nm f with
  | none => exact Nat.zero_le _
  | some u =>
    obtain ⟨q, hq, e⟩ := last_mem nm f u hl
    exact object_size h q hq u e
end Go.Proofs.YtfngjfnakokgmaaGreatDoor.Txt
/- info.read: what it answers of every text. -/
namespace Go.Proofs.YtfngjfnakokgmaaGreatDoor.Txt
open Go.RowKit Go.Proofs.YtfngjfnakokgmaaGreatDoor.Sha Go.Maps
theorem Res2.below {B : Nat} {w w' : World} (h : Res2 B w) (hb : Below w.heap.size w w') : Res2 B w' := h.only (S := fun _ => False) (Only.of_below hb) (fun e => e)
theorem iend_none {l : Bytes} (h : infoP l = none) (T : TypeId) (x : Value) : IEnd l (.returned (.tuple #[.agg #[.string ⟨#[]⟩, .string ⟨#[]⟩], .iface T x])) := Or.inr ⟨h, T, x, rfl⟩
theorem field_one (b : Bool) (t : ByteArray) (w : World) : (Instr.field 110 (.agg #[.bool b, .string t]) 1).run Tryz.prog w = .ok (.string t) w := by kernel_rfl
set_option maxRecDepth 100000 in
set_option maxHeartbeats 1000000 in
theorem read_walk (s : ByteArray) (ad : Nat → Addr) (m : Int) (w : World) (hs : s.size ≤ 140737488355327) (hW : InfoW ad m w) :
    Calls Tryz.prog 21 #[.string s] w fun e w' => IEnd s.data.toList e ∧ Below w.heap.size w w' := by
  obtain ⟨R, HR⟩ : ∃ R, Hid (w.heap.size = R) := ⟨_, rfl⟩
  have hbA := below_one w (.cells #[.string ⟨#[]⟩, .string ⟨#[]⟩] 33)
  have hRA := res2_new w (.string ⟨#[]⟩) (.string ⟨#[]⟩) 33
  have HWA : Hid (InfoW ad m (w.alloc (.cells #[.string ⟨#[]⟩, .string ⟨#[]⟩] 33))) := hW.below hbA
  rw [HR.out] at hRA
  have HW : Hid (InfoW ad m w) := hW
  clear hW
  go_enter Tryz.func21, Tryz.ntmps21
  go_wp2_with fail
  rw [HR.out]
  refine (readObject_walk s _ HWA.out.txt hs).mono ?_
  rintro e w1 ⟨hb1, he⟩
  have hR1 := hRA.below hb1
  have hB1 : Below w.heap.size w w1 := hbA.trans (hb1.mono (by simp))
  have hz1 := hB1.size
  clear hbA hRA hb1 HWA
  rcases he with ⟨f, mb, n, hf, rfl, hm⟩ | ⟨hf, x, rfl⟩
  · have HFo : Hid (object s.data.toList = some f) := hf
    obtain ⟨b, t, hlk, h1, h2, h3⟩ := look_field hm nVersion (by decide)
    have hlk' : (Instr.lookup 106 (.map (some mb)) (.string ⟨#[86, 101, 114, 115, 105, 111, 110]⟩) false).run Tryz.prog w1 = .ok (.agg #[.bool b, .string ⟨t.toArray⟩]) w1 := hlk
    have HM : Hid (MapAt mb n (FM f) w1) := hm
    obtain ⟨V, HV⟩ : ∃ V, Hid (w1.heap.size = V) := ⟨_, rfl⟩
    have hb2 := below_one w1 (.cells #[.bool b, .string ⟨t.toArray⟩] 110)
    obtain ⟨w2, HW2⟩ : ∃ w2, Hid (w1.alloc (.cells #[.bool b, .string ⟨t.toArray⟩] 110) = w2) := ⟨_, rfl⟩
    rw [HW2.out] at hb2
    have hB2 : Below w.heap.size w w2 := hB1.trans (hb2.mono hz1)
    have hR2 := hR1.below hb2
    have HM2 : Hid (MapAt mb n (FM f) w2) := mapAt_below HM.out hb2
    have HI2 : Hid (InfoW ad m w2) := HW.out.below hB2
    have q0 : w2.cell? ⟨V, 0, none⟩ = some (.bool b) := by rw [← HW2.out, ← HV.out]; simp
    have q1 : w2.cell? ⟨V, 1, none⟩ = some (.string ⟨t.toArray⟩) := by rw [← HW2.out, ← HV.out]; simp
    have hz2 := hB2.size
    clear hf hlk hm hR1 hb2
    cases b with
    | false =>
      have HN : Hid (infoP s.data.toList = none) := by show _ = _; unfold infoP; rw [HFo.out, Option.bind_some, h2 rfl]; rfl
      obtain ⟨x, hx⟩ := HI2.out.txt.none'
      obtain ⟨v0, r0⟩ := hR2.c0
      obtain ⟨v1, r1⟩ := hR2.c1
      have rf := hR2.f
      have hng := HW.out.txt.ng
      rw [HR.out] at hng
      have ne1 : ¬ 15 = R := by omega
      have ne2 : ¬ R = 15 := by omega
      clear h1 h2 h3 hR2
      go_wp2_with fail
      rw [HW2.out, HV.out]
      clear hlk' hng
      go_wp2_with fail
      go_region
      all_goals
        go_wp2
        refine bodyPost_ret (v := .tuple #[.agg #[.string ⟨#[]⟩, .string ⟨#[]⟩], .iface 217 x]) (by simp [results, Tryz.results21, go_sem, r0, r1]) rfl ⟨iend_none HN.out _ _, ?_⟩
        repeat (first | refine Below.drew ?_)
        exact below_set2 hB2 R (by rw [HR.out]; exact Nat.le_refl _) _ _
    | true =>
      have hl : last nVersion f = some t := h1 rfl
      have htl : t.length ≤ s.size := by
        have := last_size HFo.out nVersion
        rw [hl] at this
        simpa using this
      have HVer : Hid (infoP s.data.toList = if parseV t = none then none else some (t, (last nTime f).getD [])) := by show _ = _; unfold infoP; rw [HFo.out, Option.bind_some, hl]; rfl
      clear h1 h2 h3 hl
      go_wp2_with fail
      rw [HW2.out, HV.out]
      clear hlk'
      go_wp2_with fail
      refine (checkVersion_walk ⟨t.toArray⟩ w2 _ _ m (by show t.toArray.size ≤ maxLen; simp; unfold maxLen; omega) HI2.out.ver).mono ?_
      rintro e w3 ⟨he, hb3⟩
      have hB3 : Below w.heap.size w w3 := hB2.trans (hb3.mono hz2)
      have hR3 := hR2.below hb3
      obtain ⟨v0, r0⟩ := hR3.c0
      obtain ⟨v1, r1⟩ := hR3.c1
      have rf := hR3.f
      have p1 : w3.cell? ⟨V, 1, none⟩ = some (.string ⟨t.toArray⟩) := Go.Proofs.YtfngjfnakokgmaaGreatDoor.cell_below hb3 q1
      have HM3 : MapAt mb n (FM f) w3 := mapAt_below HM2.out hb3
      obtain ⟨b2, t2, hlk2, _, _, h3⟩ := look_field HM3 nTime (by decide)
      have hlk' : (Instr.lookup 106 (.map (some mb)) (.string ⟨#[84, 105, 109, 101]⟩) false).run Tryz.prog w3 = .ok (.agg #[.bool b2, .string ⟨t2.toArray⟩]) w3 := hlk2
      have HT2 : Hid (t2 = (last nTime f).getD []) := h3
      clear hlk2 h3 HM3 hR3 hb3 q0 q1 hR2
      rcases he with ⟨hx, rfl⟩ | ⟨hx, b, rfl, hc⟩
      · have HF : Hid (IEnd s.data.toList (.returned (.tuple #[.agg #[.string ⟨t.toArray⟩, .string ⟨t2.toArray⟩], .nilIface]))) := Or.inl ⟨t, t2, by rw [HVer.out, if_neg (by simpa using hx), HT2.out], rfl⟩
        have hfl := field_one b2 ⟨t2.toArray⟩ w3
        clear hx
        go_wp2
        refine bodyPost_ret (v := .tuple #[.agg #[.string ⟨t.toArray⟩, .string ⟨t2.toArray⟩], .nilIface]) (by simp [results, Tryz.results21, go_sem, r0, r1]) rfl ⟨HF.out, below_set2 hB3 _ (by rw [HR.out]; exact Nat.le_refl _) _ _⟩
      · have HN : Hid (infoP s.data.toList = none) := by show _ = _; rw [HVer.out, if_pos (by simpa using hx)]
        clear hx hc
        go_wp2
        refine bodyPost_ret (v := .tuple #[.agg #[.string ⟨#[]⟩, .string ⟨#[]⟩], .iface 75 (.pointer (some ⟨b, 0, none⟩))]) (by simp [results, Tryz.results21, go_sem, r0, r1]) rfl ⟨iend_none HN.out _ _, below_set2 hB3 _ (by rw [HR.out]; exact Nat.le_refl _) _ _⟩
  · have HN : Hid (infoP s.data.toList = none) := by show _ = _; unfold infoP; rw [hf]; rfl
    obtain ⟨v0, r0⟩ := hR1.c0
    obtain ⟨v1, r1⟩ := hR1.c1
    have rf := hR1.f
    clear hf hR1
    go_wp2
    refine bodyPost_ret (v := .tuple #[.agg #[.string ⟨#[]⟩, .string ⟨#[]⟩], .iface 217 x]) (by simp [results, Tryz.results21, go_sem, r0, r1]) rfl ⟨iend_none HN.out _ _, below_set2 hB1 _ (by rw [HR.out]; exact Nat.le_refl _) _ _⟩
end Go.Proofs.YtfngjfnakokgmaaGreatDoor.Txt
/- info.Read and satchel.Info: what they answer of every text. -/
namespace Go.Proofs.YtfngjfnakokgmaaGreatDoor.Txt
open Go.RowKit Go.Proofs.YtfngjfnakokgmaaGreatDoor.Sha Go.Maps
theorem faultOf_gen (x y : Value) (T : TypeId) (w : World) : Calls Tryz.prog 22 #[.iface 217 x, .iface T y] w fun e w' => e = .returned (.iface 75 (.pointer (some ⟨w.heap.size, 0, none⟩))) ∧ w' = w.alloc (.cells #[.iface 217 x, .iface T y] 79) := by
  go_enter Tryz.func22, Tryz.ntmps22
  go_wp2
  go_ret
  exact ⟨rfl, rfl⟩
/-- How info.Read ends. -/
def REnd (ad : Nat → Addr) (l : Bytes) (e : Ending) (w' : World) : Prop :=
  (∃ v t, infoP l = some (v, t) ∧ e = .returned (.tuple #[.agg #[.string ⟨v.toArray⟩, .string ⟨t.toArray⟩], .nilIface])) ∨
  (infoP l = none ∧ ∃ b, e = .returned (.tuple #[.agg #[.string ⟨#[]⟩, .string ⟨#[]⟩], .iface 75 (.pointer (some ⟨b, 0, none⟩))]) ∧ w'.cell? ⟨b, 0, none⟩ = some (.iface 217 (.pointer (some (ad 7)))))
set_option maxRecDepth 100000 in
set_option maxHeartbeats 1000000 in
theorem Read_walk (s : ByteArray) (ad : Nat → Addr) (m : Int) (w : World) (hs : s.size ≤ 140737488355327) (hW : InfoW ad m w) :
    Calls Tryz.prog 12 #[.string s] w fun e w' => REnd ad s.data.toList e w' ∧ Below w.heap.size w w' := by
  obtain ⟨R, HR⟩ : ∃ R, Hid (w.heap.size = R) := ⟨_, rfl⟩
  have hbA := below_one w (.cells #[.string ⟨#[]⟩, .string ⟨#[]⟩] 33)
  have hRA := res2_new w (.string ⟨#[]⟩) (.string ⟨#[]⟩) 33
  have HWA : Hid (InfoW ad m (w.alloc (.cells #[.string ⟨#[]⟩, .string ⟨#[]⟩] 33))) := hW.below hbA
  rw [HR.out] at hRA
  have HW : Hid (InfoW ad m w) := hW
  clear hW
  go_enter Tryz.func12, Tryz.ntmps12
  go_wp2_with fail
  rw [HR.out]
  refine (read_walk s ad m _ hs HWA.out).mono ?_
  rintro e w1 ⟨he, hb1⟩
  have hR1 := hRA.below hb1
  have hB1 : Below w.heap.size w w1 := hbA.trans (hb1.mono (by simp))
  have hz1 := hB1.size
  clear hbA hRA hb1 HWA
  rcases he with ⟨v, t, hi, rfl⟩ | ⟨hi, T, x, rfl⟩
  · have HI : Hid (infoP s.data.toList = some (v, t)) := hi
    have hb2 := below_one w1 (.cells #[.string ⟨v.toArray⟩, .string ⟨t.toArray⟩] 33)
    have hR2 := hR1.below hb2
    have hB2 : Below w.heap.size w _ := hB1.trans (hb2.mono hz1)
    obtain ⟨v0, r0⟩ := hR2.c0
    obtain ⟨v1, r1⟩ := hR2.c1
    have rf := hR2.f
    clear hi hb2 hR1 hR2
    go_wp2
    refine bodyPost_ret (v := .tuple #[.agg #[.string ⟨v.toArray⟩, .string ⟨t.toArray⟩], .nilIface]) (by simp [results, Tryz.results12, go_sem, r0, r1]) rfl ⟨Or.inl ⟨v, t, HI.out, rfl⟩, below_set2 hB2 _ (by rw [HR.out]; exact Nat.le_refl _) _ _⟩
  · have HI : Hid (infoP s.data.toList = none) := hi
    have hb2 := below_one w1 (.cells #[.string ⟨#[]⟩, .string ⟨#[]⟩] 33)
    obtain ⟨w2, HW2⟩ : ∃ w2, Hid (w1.alloc (.cells #[.string ⟨#[]⟩, .string ⟨#[]⟩] 33) = w2) := ⟨_, rfl⟩
    rw [HW2.out] at hb2
    have hR2 := hR1.below hb2
    have hB2 : Below w.heap.size w w2 := hB1.trans (hb2.mono hz1)
    have hc7 := (HW.out.below hB2).sent.c7
    rw [← HW2.out] at hc7
    have hz2 := hB2.size
    clear hi hb2 hR1
    go_wp2_with fail
    refine (faultOf_gen _ _ _ _).mono ?_
    rintro e w3 ⟨rfl, rfl⟩
    rw [HW2.out]
    have hb3 := below_one w2 (.cells #[.iface 217 (.pointer (some (ad 7))), .iface T x] 79)
    have hR3 := hR2.below hb3
    have hB3 : Below w.heap.size w _ := hB2.trans (hb3.mono hz2)
    have HRl : Hid (R < w2.heap.size) := by
      obtain ⟨v0, r0⟩ := hR2.c0
      exact Txt.lt_of_cell r0
    obtain ⟨v0, r0⟩ := hR3.c0
    obtain ⟨v1, r1⟩ := hR3.c1
    have rf := hR3.f
    clear hb3 hR2 hR3 hc7
    go_wp2
    refine bodyPost_ret (v := .tuple #[.agg #[.string ⟨#[]⟩, .string ⟨#[]⟩], .iface 75 (.pointer (some ⟨w2.heap.size, 0, none⟩))]) (by simp [results, Tryz.results12, go_sem, r0, r1]) rfl ⟨Or.inr ⟨HI.out, w2.heap.size, rfl, ?_⟩, below_set2 hB3 _ (by rw [HR.out]; exact Nat.le_refl _) _ _⟩
    have hne := HRl.out
    rw [World.cell?_setCell_other _ _ _ _ (by intro e; injection e with e1; omega), World.cell?_setCell_other _ _ _ _ (by intro e; injection e with e1; omega)]
    simp
/-- The answer of Info. -/
def infoA (o : Option (Bytes × Bytes)) : Value := match o with
  | some (v, t) => .tuple #[.agg #[.string ⟨v.toArray⟩, .string ⟨t.toArray⟩], .int .i64 0]
  | none => .tuple #[.agg #[.string ⟨#[]⟩, .string ⟨#[]⟩], .int .i64 8]
set_option maxRecDepth 100000 in
set_option maxHeartbeats 1000000 in
theorem face_info (s : ByteArray) (ad : Nat → Addr) (m : Int) (w : World) (hs : s.size ≤ 140737488355327) (hW : InfoW ad m w) :
    Calls Tryz.prog 4 #[.string s] w fun e w' => e = .returned (infoA (infoP s.data.toList)) ∧ Below w.heap.size w w' := by
  obtain ⟨R, HR⟩ : ∃ R, Hid (w.heap.size = R) := ⟨_, rfl⟩
  have hbA := below_one w (.cells #[.string ⟨#[]⟩, .string ⟨#[]⟩] 33)
  have hRA := res2_new w (.string ⟨#[]⟩) (.string ⟨#[]⟩) 33
  have HWA : Hid (InfoW ad m (w.alloc (.cells #[.string ⟨#[]⟩, .string ⟨#[]⟩] 33))) := hW.below hbA
  rw [HR.out] at hRA
  have HW : Hid (InfoW ad m w) := hW
  clear hW
  go_enter Tryz.func4, Tryz.ntmps4
  go_wp2_with fail
  rw [HR.out]
  refine (Read_walk s ad m _ hs HWA.out).mono ?_
  rintro e w1 ⟨he, hb1⟩
  have hR1 := hRA.below hb1
  have hB1 : Below w.heap.size w w1 := hbA.trans (hb1.mono (by simp))
  have hz1 := hB1.size
  clear hbA hRA hb1 HWA
  rcases he with ⟨v, t, hi, rfl⟩ | ⟨hi, b, rfl, hc⟩
  · have HI : Hid (infoP s.data.toList = some (v, t)) := hi
    obtain ⟨A, HA⟩ : ∃ A, Hid (w1.heap.size = A) := ⟨_, rfl⟩
    have hb2 := below_one w1 (.cells #[.string ⟨v.toArray⟩, .string ⟨t.toArray⟩] 33)
    obtain ⟨w2, HW2⟩ : ∃ w2, Hid (w1.alloc (.cells #[.string ⟨v.toArray⟩, .string ⟨t.toArray⟩] 33) = w2) := ⟨_, rfl⟩
    rw [HW2.out] at hb2
    have hR2 := hR1.below hb2
    have hB2 : Below w.heap.size w w2 := hB1.trans (hb2.mono hz1)
    have q0 : w2.cell? ⟨A, 0, none⟩ = some (.string ⟨v.toArray⟩) := by rw [← HW2.out, ← HA.out]; simp
    have q1 : w2.cell? ⟨A, 1, none⟩ = some (.string ⟨t.toArray⟩) := by rw [← HW2.out, ← HA.out]; simp
    obtain ⟨v0, r0⟩ := hR2.c0
    obtain ⟨v1, r1⟩ := hR2.c1
    have rf := hR2.f
    clear hi hb2 hR1 hR2
    go_wp2_with fail
    rw [HW2.out, HA.out]
    go_region_with (go_at_call 13; refine (number_nil _).mono ?_; rintro e w' ⟨rfl, rfl⟩)
    all_goals
      go_wp2
      refine bodyPost_ret (v := .tuple #[.agg #[.string ⟨v.toArray⟩, .string ⟨t.toArray⟩], .int .i64 0]) (by simp [results, Tryz.results4, go_sem, r0, r1]) rfl ⟨by rw [HI.out]; rfl, ?_⟩
      repeat (first | refine Below.drew ?_)
      exact below_set2 hB2 _ (by rw [HR.out]; exact Nat.le_refl _) _ _
  · have HI : Hid (infoP s.data.toList = none) := hi
    obtain ⟨A, HA⟩ : ∃ A, Hid (w1.heap.size = A) := ⟨_, rfl⟩
    have hb2 := below_one w1 (.cells #[.string ⟨#[]⟩, .string ⟨#[]⟩] 33)
    obtain ⟨w2, HW2⟩ : ∃ w2, Hid (w1.alloc (.cells #[.string ⟨#[]⟩, .string ⟨#[]⟩] 33) = w2) := ⟨_, rfl⟩
    rw [HW2.out] at hb2
    have hR2 := hR1.below hb2
    have hB2 : Below w.heap.size w w2 := hB1.trans (hb2.mono hz1)
    have hz2 := hB2.size
    have hc2 := Go.Proofs.YtfngjfnakokgmaaGreatDoor.cell_below hb2 hc
    have HS2 : Hid (Sent ad w2) := (HW.out.below hB2).sent
    have q0 : w2.cell? ⟨A, 0, none⟩ = some (.string ⟨#[]⟩) := by rw [← HW2.out, ← HA.out]; simp
    have q1 : w2.cell? ⟨A, 1, none⟩ = some (.string ⟨#[]⟩) := by rw [← HW2.out, ← HA.out]; simp
    obtain ⟨v0, r0⟩ := hR2.c0
    obtain ⟨v1, r1⟩ := hR2.c1
    have rf := hR2.f
    have HRl : Hid (R < w2.heap.size) := Txt.lt_of_cell r0
    have HSd : Hid (Sent ad w2.drew) := HS2.out.below (Below.refl _ _).drew
    have HCd : Hid (w2.drew.cell? ⟨b, 0, none⟩ = some (.iface 217 (.pointer (some (ad 7))))) := hc2
    have HQ0 : Hid (w2.drew.cell? ⟨A, 0, none⟩ = some (.string ⟨#[]⟩)) := q0
    have HQ1 : Hid (w2.drew.cell? ⟨A, 1, none⟩ = some (.string ⟨#[]⟩)) := q1
    have HR0 : Hid (w2.drew.cell? ⟨R, 0, none⟩ = some v0) := r0
    have HR1 : Hid (w2.drew.cell? ⟨R, 1, none⟩ = some v1) := r1
    have HRf : Hid (∀ o, w2.drew.frozen? ⟨R, o, none⟩ = false) := rf
    clear hi hb2 hR1 hR2 hc hc2
    go_wp2_with fail
    rw [HW2.out, HA.out]
    go_region_with (go_at_call 13; refine (number_info b ad w2.drew HSd.out HCd.out).mono ?_; rintro e w5 ⟨rfl, hb5⟩; have g0 := Go.Proofs.YtfngjfnakokgmaaGreatDoor.cell_below hb5 HQ0.out; have g1 := Go.Proofs.YtfngjfnakokgmaaGreatDoor.cell_below hb5 HQ1.out; have g2 := Go.Proofs.YtfngjfnakokgmaaGreatDoor.cell_below hb5 HR0.out; have g3 := Go.Proofs.YtfngjfnakokgmaaGreatDoor.cell_below hb5 HR1.out; have g4 : ∀ o, w5.frozen? ⟨R, o, none⟩ = false := (fun o => by rw [hb5.frozen (p := ⟨R, o, none⟩) HRl.out]; exact HRf.out o))
    all_goals
      have hB5 : Below w.heap.size w w5 := (hB2.drew).trans (hb5.mono hz2)
      clear hb5
      go_wp2
      refine bodyPost_ret (v := .tuple #[.agg #[.string ⟨#[]⟩, .string ⟨#[]⟩], .int .i64 8]) (by simp [results, Tryz.results4, go_sem, g2, g3]) rfl ⟨by rw [HI.out]; rfl, ?_⟩
      repeat (first | refine Below.drew ?_)
      exact below_set2 hB5 _ (by rw [HR.out]; exact Nat.le_refl _) _ _
end Go.Proofs.YtfngjfnakokgmaaGreatDoor.Txt
/- The document's own skip: the place behind the blanks. -/
namespace Go.Proofs.YtfngjfnakokgmaaGreatDoor.Txt
open Go.RowKit Go.Proofs.YtfngjfnakokgmaaGreatDoor.Sha
theorem blank_yes {c : UInt8} (h : (c.toNat : Int) = 32 ∨ (c.toNat : Int) = 9 ∨ (c.toNat : Int) = 10 ∨ (c.toNat : Int) = 13) : isBlank c = true := by
  have k : ∀ d : UInt8, (c.toNat : Int) = (d.toNat : Int) → c = d := fun d e => UInt8.toNat_inj.1 (by omega)
  rcases h with h | h | h | h
  · rw [k 32 h]; rfl
  · rw [k 9 h]; rfl
  · rw [k 10 h]; rfl
  · rw [k 13 h]; rfl
theorem blank_no {c : UInt8} (h1 : ((c.toNat : Int) == 32) = false) (h2 : ((c.toNat : Int) == 9) = false) (h3 : ((c.toNat : Int) == 10) = false) (h4 : ((c.toNat : Int) == 13) = false) : isBlank c = false := by
  have g : ∀ d : UInt8, ((c.toNat : Int) == (d.toNat : Int)) = false → (c == d) = false := fun d h => by
    simp only [beq_eq_false_iff_ne, ne_eq] at h ⊢
    intro e; exact h (by rw [e])
  unfold isBlank
  rw [g 32 h1, g 9 h2, g 10 h3, g 13 h4]; rfl
theorem drop_cons (s : ByteArray) (k : Nat) (h : k < s.size) : s.data.toList.drop k = s[k] :: s.data.toList.drop (k + 1) := by
  rw [List.drop_eq_getElem_cons (by simpa using h)]; rfl
theorem drop_end (s : ByteArray) (k : Nat) (h : s.size ≤ k) : s.data.toList.drop k = [] := List.drop_eq_nil_of_le (by simpa using h)
theorem rskip_walk (s : ByteArray) (a : Nat) (w : World) (ha : a ≤ s.size) (hs : s.size ≤ 140737488355328) :
    Calls Tryz.prog 25 #[.string s, .int .i64 (a : Int)] w fun e w' => (∃ a' : Nat, e = .returned (.int .i64 (a' : Int)) ∧ a' ≤ s.size ∧ s.data.toList.drop a' = skip (s.data.toList.drop a)) ∧ w' = w := by
  go_enter Tryz.func25, Tryz.ntmps25
  go_wp2
  go_loopw [1] (fun v wr => ∃ k : Nat, v = .int .i64 (k : Int) ∧ k ≤ s.size ∧ Hid (skip (s.data.toList.drop k) = skip (s.data.toList.drop a)) ∧ wr = w) (fun v _ => s.size - (intOf v).toNat)
  case atStart => exact ⟨a, rfl, ha, rfl, rfl⟩
  case round =>
    obtain ⟨k, rfl, hk, HI, rfl⟩ := hrel
    by_cases hlt : k < s.size
    · have hlt' : (k : Int) < (s.size : Int) := by omega
      have hge : ¬ (s.size : Int) ≤ (k : Int) := by omega
      obtain ⟨c, hc⟩ : ∃ c : UInt8, c = s[k] := ⟨_, rfl⟩
      have HC : Hid (s[k] = c) := hc.symm
      clear hc
      by_cases h32 : (c.toNat : Int) = 32
      · have HS : Hid (skip (s.data.toList.drop (k + 1)) = skip (s.data.toList.drop a)) := by
          show _ = _
          rw [← HI.out, drop_cons s k hlt, HC.out, skip_cons_blank _ (blank_yes (Or.inl h32))]
        have t32 : ((s[k].toNat : Int) == 32) = true := by rw [HC.out, h32]; rfl
        clear h32
        go_wp2
        go_roundw
        case rel => first | exact ⟨k + 1, by go_num, by omega, HS, rfl⟩ | exact ⟨k + 1, by go_num, by omega, HS, trivial⟩ | exact ⟨k + 1, by go_num, by omega, HS⟩
        case measure => simp [intOf]; omega
      · have _q32 := h32
        by_cases h9 : (c.toNat : Int) = 9
        · have HS : Hid (skip (s.data.toList.drop (k + 1)) = skip (s.data.toList.drop a)) := by
            show _ = _
            rw [← HI.out, drop_cons s k hlt, HC.out, skip_cons_blank _ (blank_yes (Or.inr (Or.inl h9)))]
          have t9 : ((s[k].toNat : Int) == 9) = true := by rw [HC.out, h9]; rfl
          have t32 : ((s[k].toNat : Int) == 32) = false := by rw [HC.out]; simpa using h32
          clear h32 h9
          go_wp2
          go_roundw
          case rel => first | exact ⟨k + 1, by go_num, by omega, HS, rfl⟩ | exact ⟨k + 1, by go_num, by omega, HS, trivial⟩ | exact ⟨k + 1, by go_num, by omega, HS⟩
          case measure => simp [intOf]; omega
        · have _q9 := h9
          by_cases h10 : (c.toNat : Int) = 10
          · have HS : Hid (skip (s.data.toList.drop (k + 1)) = skip (s.data.toList.drop a)) := by
              show _ = _
              rw [← HI.out, drop_cons s k hlt, HC.out, skip_cons_blank _ (blank_yes (Or.inr (Or.inr (Or.inl h10))))]
            have t10 : ((s[k].toNat : Int) == 10) = true := by rw [HC.out, h10]; rfl
            have t32 : ((s[k].toNat : Int) == 32) = false := by rw [HC.out]; simpa using h32
            have t9 : ((s[k].toNat : Int) == 9) = false := by rw [HC.out]; simpa using h9
            clear h32 h9 h10
            go_wp2
            go_roundw
            case rel => first | exact ⟨k + 1, by go_num, by omega, HS, rfl⟩ | exact ⟨k + 1, by go_num, by omega, HS, trivial⟩ | exact ⟨k + 1, by go_num, by omega, HS⟩
            case measure => simp [intOf]; omega
          · have _q10 := h10
            by_cases h13 : (c.toNat : Int) = 13
            · have HS : Hid (skip (s.data.toList.drop (k + 1)) = skip (s.data.toList.drop a)) := by
                show _ = _
                rw [← HI.out, drop_cons s k hlt, HC.out, skip_cons_blank _ (blank_yes (Or.inr (Or.inr (Or.inr (h13)))))]
              have t13 : ((s[k].toNat : Int) == 13) = true := by rw [HC.out, h13]; rfl
              have t32 : ((s[k].toNat : Int) == 32) = false := by rw [HC.out]; simpa using h32
              have t9 : ((s[k].toNat : Int) == 9) = false := by rw [HC.out]; simpa using h9
              have t10 : ((s[k].toNat : Int) == 10) = false := by rw [HC.out]; simpa using h10
              clear h32 h9 h10 h13
              go_wp2
              go_roundw
              case rel => first | exact ⟨k + 1, by go_num, by omega, HS, rfl⟩ | exact ⟨k + 1, by go_num, by omega, HS, trivial⟩ | exact ⟨k + 1, by go_num, by omega, HS⟩
              case measure => simp [intOf]; omega
            · have _q13 := h13
              have t32 : ((s[k].toNat : Int) == 32) = false := by rw [HC.out]; simpa using h32
              have t9 : ((s[k].toNat : Int) == 9) = false := by rw [HC.out]; simpa using h9
              have t10 : ((s[k].toNat : Int) == 10) = false := by rw [HC.out]; simpa using h10
              have t13 : ((s[k].toNat : Int) == 13) = false := by rw [HC.out]; simpa using h13
              have HS : Hid (s.data.toList.drop k = skip (s.data.toList.drop a)) := by
                show _ = _
                rw [← HI.out, drop_cons s k hlt, skip_cons_other _ (blank_no t32 t9 t10 t13)]
              clear h32 _q32 h9 _q9 h10 _q10 h13 _q13
              go_wp2
              go_ret
              exact ⟨⟨k, rfl, hk, HS.out⟩, rfl⟩
    · have hlt' : ¬ (k : Int) < (s.size : Int) := by omega
      have HS : Hid (s.data.toList.drop k = skip (s.data.toList.drop a)) := by
        show _ = _
        rw [← HI.out, drop_end s k (by omega)]; rfl
      go_wp2
      go_ret
      exact ⟨⟨k, rfl, hk, HS.out⟩, rfl⟩
end Go.Proofs.YtfngjfnakokgmaaGreatDoor.Txt
