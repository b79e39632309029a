/- The document's own Info. -/
import Derived.Test.YtfngjfnakokgmaaGreatDoorRTObj
import Derived.Test.YtfngjfnakokgmaaGreatDoorTextIToRTSkip
import Derived.Test.YtfngjfnakokgmaaGreatDoorRefF
namespace Go.Proofs.YtfngjfnakokgmaaGreatDoor.Txt
open Go.RowKit Go.Proofs.YtfngjfnakokgmaaGreatDoor.Sha
/-- The last value of a name that is a text. -/
def lastT (nm : Bytes) (f : Fields) : Option Bytes := f.foldl (fun acc q => if q.1 = nm ∧ q.2.isSome = true then q.2 else acc) none
theorem lastT_snoc (nm : Bytes) (f : Fields) (q : Bytes × Option Bytes) : lastT nm (f ++ [q]) = if q.1 = nm ∧ q.2.isSome = true then q.2 else lastT nm f := by simp [lastT, List.foldl_append]
theorem last_absent (nm : Bytes) (f : Fields) (h : f.any (fun q => q.1 == nm) = false) : last nm f = none ∧ lastT nm f = none := by
  induction f using snoc_ind with
  | h0 => exact ⟨rfl, rfl⟩
  | h1 l x ih =>
    rw [List.any_append, Bool.or_eq_false_iff] at h
    have hx : x.1 ≠ nm := by simpa using h.2
    obtain ⟨e1, e2⟩ := ih h.1
    rw [last_snoc, lastT_snoc, if_neg hx, if_neg (fun e => hx e.1), e1, e2]
    exact ⟨rfl, rfl⟩
/-- No two fields have one name. -/
def Apart : Fields → Prop
  | [] => True
  | q :: f => f.any (fun x => x.1 == q.1) = false ∧ Apart f
def ApartE (f : Fields) : Prop := ∀ l x r, f = l ++ x :: r → l.any (fun q => q.1 == x.1) = false
theorem last_eq (nm : Bytes) (f : Fields) (h : ApartE f) : lastT nm f = last nm f := by
  induction f using snoc_ind with
  | h0 => rfl
  | h1 l x ih =>
    have hl : ApartE l := fun a b c e => h a b (c ++ [x]) (by rw [e]; simp)
    rw [last_snoc, lastT_snoc]
    by_cases hx : x.1 = nm
    · obtain ⟨e1, e2⟩ := last_absent nm l (by have := h l x [] rfl; rw [hx] at this; exact this)
      rw [if_pos hx]
      cases hv : x.2 with
      | none => rw [if_neg (by simp), e2]
      | some u => rw [if_pos ⟨hx, rfl⟩]
    · rw [if_neg hx, if_neg (fun e => hx e.1), ih hl]
theorem apart_nil : ApartE [] := fun l x r e => by simp at e
theorem apart_snoc {f : Fields} {q : Bytes × Option Bytes} (h : ApartE f) (hq : f.any (fun x => x.1 == q.1) = false) : ApartE (f ++ [q]) := by
  intro l x r e
  by_cases hr : r = []
  · subst hr
    have e2 := List.append_inj' e rfl
    injection e2.2 with e3
    rw [← e2.1, ← e3]; exact hq
  · obtain ⟨r', y, rfl⟩ : ∃ r' y, r = r' ++ [y] := ⟨r.dropLast, r.getLast hr, (List.dropLast_concat_getLast hr).symm⟩
    rw [show l ++ x :: (r' ++ [y]) = (l ++ x :: r') ++ [y] by simp] at e
    exact h l x r' (List.append_inj' e rfl).1
theorem fields_apart : ∀ (n : Nat) (had : Fields) (l r : Bytes) (f : Fields), ApartE had → fields n had l = some (f, r) → ApartE f
  | 0, _, _, _, _, _, h => by cases h
  | n + 1, had, l, r, f, hh, h => by
    unfold fields at h
    obtain ⟨p, hp, h⟩ := Option.bind_eq_some_iff.1 h
    split at h
    · cases h
    · rename_i hd
      have hh' : ApartE (had ++ [p.1]) := apart_snoc hh (eq_false_of_ne_true hd)
      split at h
      · cases h
      · split at h
        · exact fields_apart n _ _ r f hh' h
        · split at h
          · injection h with h
            rw [Prod.mk.injEq] at h
            rw [← h.1]; exact hh'
          · cases h
theorem object_apart {l : Bytes} {f : Fields} (h : object l = some f) : ApartE f := by
  unfold object at h
  obtain ⟨r, hr, h⟩ := Option.bind_eq_some_iff.1 h
  split at h
  · cases h
  · split at h
    · split at h
      · injection h with h; rw [← h]; exact apart_nil
      · cases h
    · obtain ⟨p, hp, h⟩ := Option.bind_eq_some_iff.1 h
      split at h
      · injection h with h
        rw [← h]
        exact fields_apart _ [] _ p.2 p.1 apart_nil hp
      · cases h
theorem infoP_T {l : Bytes} {f : Fields} (h : object l = some f) : infoP l = (lastT nVersion f).bind fun v => if parseV v = none then none else some (v, (lastT nTime f).getD []) := by
  have ha := object_apart h
  unfold infoP
  rw [h, Option.bind_some, last_eq _ f ha, last_eq _ f ha]
theorem lastT_size {s : ByteArray} (nm : Bytes) (f : Fields) (h : Small s f) : ((lastT nm f).getD []).length ≤ s.size := by
  induction f using snoc_ind with
  | h0 => exact Nat.zero_le _
  | h1 l x ih =>
    rw [lastT_snoc]
    split
    · exact h x (by simp)
    · exact ih (fun q hq => h q (by simp [hq]))
/-- The cells of the fields. -/
def FCells (g : Nat) (f : Fields) (w : World) : Prop := ∀ k (hk : k < f.length), w.cell? ⟨g, k * 3, none⟩ = some (.string ⟨f[k].1.toArray⟩) ∧ w.cell? ⟨g, k * 3 + 1, none⟩ = some (.string ⟨(f[k].2.getD []).toArray⟩) ∧ w.cell? ⟨g, k * 3 + 2, none⟩ = some (.bool f[k].2.isSome)
theorem FCells.set {g A j : Nat} {f : Fields} {w : World} (h : FCells g f w) (hne : A ≠ g) (v : Value) : FCells g f (w.setCell ⟨A, j, none⟩ v) := fun k hk => by
  have o : ∀ i, (w.setCell ⟨A, j, none⟩ v).cell? ⟨g, i, none⟩ = w.cell? ⟨g, i, none⟩ := fun i => World.cell?_setCell_other _ _ _ _ (by intro e; injection e with e1; exact hne e1)
  obtain ⟨h1, h2, h3⟩ := h k hk
  exact ⟨(o _).trans h1, (o _).trans h2, (o _).trans h3⟩
/-- What the loop over the fields keeps: V and M are the texts so far. -/
structure RI (w0 : World) (A R : Nat) (f : Fields) (ao : Option Addr) (V M : Bytes) (wx : World) : Prop where
  c0 : wx.cell? ⟨A, 0, none⟩ = some (.string ⟨V.toArray⟩)
  c1 : wx.cell? ⟨A, 1, none⟩ = some (.string ⟨M.toArray⟩)
  fro : ∀ o, wx.frozen? ⟨A, o, none⟩ = false
  res : Res2 R wx
  bel : Below w0.heap.size w0 wx
  cel : 0 < f.length → ∃ g, ao = some ⟨g, 0, none⟩ ∧ A ≠ g ∧ FCells g f wx
theorem RI.set0 {w0 : World} {A R : Nat} {f : Fields} {ao : Option Addr} {V M V' : Bytes} {wx : World} (h : RI w0 A R f ao V M wx) (hA : w0.heap.size ≤ A) (hR : A ≠ R) : RI w0 A R f ao V' M (wx.setCell ⟨A, 0, none⟩ (.string ⟨V'.toArray⟩)) := by
  obtain ⟨v0, r0⟩ := h.res.c0
  obtain ⟨v1, r1⟩ := h.res.c1
  have o : ∀ i, (wx.setCell ⟨A, 0, none⟩ (.string ⟨V'.toArray⟩)).cell? ⟨R, i, none⟩ = wx.cell? ⟨R, i, none⟩ := fun i => World.cell?_setCell_other _ _ _ _ (by intro e; injection e with e1; exact hR e1)
  exact ⟨World.cell?_setCell_same _ _ _ h.c0, by rw [World.cell?_setCell_other _ _ _ _ (by intro e; injection e with _ e1; cases e1)]; exact h.c1, fun j => by rw [World.frozen?_setCell]; exact h.fro j, ⟨fun j => by rw [World.frozen?_setCell]; exact h.res.f j, ⟨v0, (o 0).trans r0⟩, ⟨v1, (o 1).trans r1⟩⟩, h.bel.setCell (p := ⟨A, 0, none⟩) hA _, fun hl => by
    obtain ⟨g, e1, e2, e3⟩ := h.cel hl
    exact ⟨g, e1, e2, e3.set e2 _⟩⟩
theorem RI.set1 {w0 : World} {A R : Nat} {f : Fields} {ao : Option Addr} {V M M' : Bytes} {wx : World} (h : RI w0 A R f ao V M wx) (hA : w0.heap.size ≤ A) (hR : A ≠ R) : RI w0 A R f ao V M' (wx.setCell ⟨A, 1, none⟩ (.string ⟨M'.toArray⟩)) := by
  obtain ⟨v0, r0⟩ := h.res.c0
  obtain ⟨v1, r1⟩ := h.res.c1
  have o : ∀ i, (wx.setCell ⟨A, 1, none⟩ (.string ⟨M'.toArray⟩)).cell? ⟨R, i, none⟩ = wx.cell? ⟨R, i, none⟩ := fun i => World.cell?_setCell_other _ _ _ _ (by intro e; injection e with e1; exact hR e1)
  exact ⟨by rw [World.cell?_setCell_other _ _ _ _ (by intro e; injection e with _ e1; cases e1)]; exact h.c0, World.cell?_setCell_same _ _ _ h.c1, fun j => by rw [World.frozen?_setCell]; exact h.fro j, ⟨fun j => by rw [World.frozen?_setCell]; exact h.res.f j, ⟨v0, (o 0).trans r0⟩, ⟨v1, (o 1).trans r1⟩⟩, h.bel.setCell (p := ⟨A, 1, none⟩) hA _, fun hl => by
    obtain ⟨g, e1, e2, e3⟩ := h.cel hl
    exact ⟨g, e1, e2, e3.set e2 _⟩⟩
def RIRel (w0 : World) (A R : Nat) (f : Fields) (ao : Option Addr) (sm i : Value) (wx : World) : Prop :=
  ∃ k : Nat, i = .int .i64 (k : Int) ∧ k ≤ f.length ∧ sm = .bool (lastT nVersion (f.take k)).isSome ∧ RI w0 A R f ao ((lastT nVersion (f.take k)).getD []) ((lastT nTime (f.take k)).getD []) wx
theorem take_snoc' (f : Fields) (k : Nat) (h : k < f.length) : f.take (k + 1) = f.take k ++ [f[k]] := List.take_succ_eq_append_getElem h
theorem rirel_step {w0 : World} {A R : Nat} {f : Fields} {ao : Option Addr} {k : Nat} (hk : k < f.length) {wx : World} {V M : Bytes} {sm : Bool} (h : RI w0 A R f ao V M wx) (hs : sm = (lastT nVersion (f.take k ++ [f[k]])).isSome) (hV : V = (lastT nVersion (f.take k ++ [f[k]])).getD []) (hM : M = (lastT nTime (f.take k ++ [f[k]])).getD []) : RIRel w0 A R f ao (.bool sm) (.int .i64 ((k : Int) + 1)) wx :=
  ⟨k + 1, by simp, hk, by rw [take_snoc' f k hk, hs], by rw [take_snoc' f k hk, ← hV, ← hM]; exact h⟩
set_option maxRecDepth 100000 in
set_option maxHeartbeats 4000000 in
theorem ref_info (s : ByteArray) (w : World) (hs : s.size ≤ 1048576) :
    Calls Tryz.prog 5 #[.string s] w fun e w' => e = .returned (infoA (infoP s.data.toList)) ∧ Below w.heap.size w w' := by
  obtain ⟨R, HR⟩ : ∃ R, Hid (w.heap.size = R) := ⟨_, rfl⟩
  have hbA := below_one w (.cells #[.string ⟨#[]⟩, .string ⟨#[]⟩] 33)
  have hRA := res2_new w (.string ⟨#[]⟩) (.string ⟨#[]⟩) 33
  rw [HR.out] at hRA
  go_enter Tryz.func5, Tryz.ntmps5
  go_wp2_with fail
  rw [HR.out]
  refine (robject_walk s _ hs).mono ?_
  rintro e w1 ⟨hb1, he⟩
  have hR1 := hRA.below hb1
  have hB1 : Below w.heap.size w w1 := hbA.trans (hb1.mono (by simp))
  have hz1 := hB1.size
  have hRl : R < w1.heap.size := by obtain ⟨v0, r0⟩ := hR1.c0; exact Txt.lt_of_cell r0
  have hb2 := below_one w1 (.cells #[.string ⟨#[]⟩, .string ⟨#[]⟩] 33)
  clear hbA hRA hb1
  have key : ∃ (ok : Bool) (f : Fields) (v : Value), e = .returned (.tuple #[v, .bool ok]) ∧ (∃ base, PairsAt w1 base v f) ∧ Small s f ∧ (ok = true → object s.data.toList = some f) ∧ (ok = false → object s.data.toList = none) ∧ f.length ≤ s.size := by
    rcases he with ⟨f, v, ho, rfl, hp, hl, hsm⟩ | ⟨ho, f, v, rfl, hp, hl, hsm⟩
    · exact ⟨true, f, v, rfl, ⟨_, hp⟩, hsm, fun _ => ho, fun e => (by cases e), hl⟩
    · exact ⟨false, f, v, rfl, ⟨_, hp⟩, hsm, fun e => (by cases e), fun _ => ho, hl⟩
  clear he
  obtain ⟨ok, f, v, rfl, ⟨base, hP⟩, hsm, ho1, ho2, hfl⟩ := key
  obtain ⟨ao, cap, rfl⟩ := pairs_slice hP
  obtain ⟨A, HA⟩ : ∃ A, Hid (w1.heap.size = A) := ⟨_, rfl⟩
  obtain ⟨w2, HW2⟩ : ∃ w2, Hid (w1.alloc (.cells #[.string ⟨#[]⟩, .string ⟨#[]⟩] 33) = w2) := ⟨_, rfl⟩
  rw [HW2.out] at hb2
  have HSm : Hid (Small s f) := hsm
  have HO1 : Hid (ok = true → object s.data.toList = some f) := ho1
  have HO2 : Hid (ok = false → object s.data.toList = none) := ho2
  have HAR : Hid (A ≠ R) := by show _ ≠ _; rw [← HA.out]; omega
  have HAw : Hid (w.heap.size ≤ A) := by rw [← HA.out]; exact hz1
  have HR0 : Hid (RIRel w A R f ao (.bool false) (.int .i64 0) w2) := by
    refine ⟨0, rfl, Nat.zero_le _, rfl, ?_⟩
    refine ⟨by rw [← HW2.out, ← HA.out]; simp; rfl, by rw [← HW2.out, ← HA.out]; simp; rfl, fun o => by rw [← HW2.out, ← HA.out]; simp, hR1.below hb2, hB1.trans (hb2.mono hz1), fun hl => ?_⟩
    obtain ⟨g, cap', hv, hgl, _, hcs⟩ := pairs_at hP hl
    injection hv with hv1 hv2 hv3
    refine ⟨g, hv1, by rw [← HA.out]; omega, fun k hk => ?_⟩
    obtain ⟨h1, h2, h3⟩ := hcs k hk
    have hq := fun i => hb2.cell (p := ⟨g, i, none⟩) hgl
    exact ⟨(hq _).trans h1, (hq _).trans h2, (hq _).trans h3⟩
  clear hsm ho1 ho2 hP hR1 hb2 hB1 hRl
  go_wp2
  rw [HW2.out, HA.out]
  go_loopw [7, 8] (fun sm i wx => RIRel w A R f ao sm i wx) (fun _ i _ => f.length - (intOf i).toNat)
  case atStart => exact HR0.out
  case round =>
    clear HR0
    obtain ⟨k, rfl, hk, rfl, hI⟩ := hrel
    by_cases hkl : k < f.length
    · have hkl' : (k : Int) < (f.length : Int) := by omega
      obtain ⟨g, hao, hAg, hcs⟩ := hI.cel (by omega)
      subst hao
      obtain ⟨x0, x1, x2⟩ := hcs k hkl
      have a0 := hI.c0
      have a1 := hI.c1
      have af := hI.fro
      have HI : Hid (RI w A R f (some ⟨g, 0, none⟩) ((lastT nVersion (f.take k)).getD []) ((lastT nTime (f.take k)).getD []) _) := hI
      obtain ⟨n, hn⟩ : ∃ n, n = f[k].1 := ⟨_, rfl⟩
      obtain ⟨u, hu⟩ : ∃ u, u = f[k].2.getD [] := ⟨_, rfl⟩
      obtain ⟨b, hb⟩ : ∃ b, b = f[k].2.isSome := ⟨_, rfl⟩
      rw [← hn] at x0
      rw [← hu] at x1
      rw [← hb] at x2
      have HNn : Hid (n = f[k].1) := hn
      have HU : Hid (u = f[k].2.getD []) := hu
      have HBb : Hid (b = f[k].2.isSome) := hb
      obtain ⟨V0, HV0⟩ : ∃ V, Hid ((lastT nVersion (f.take k)).getD [] = V) := ⟨_, rfl⟩
      obtain ⟨M0, HM0⟩ : ∃ V, Hid ((lastT nTime (f.take k)).getD [] = V) := ⟨_, rfl⟩
      obtain ⟨sm0, HS0⟩ : ∃ V, Hid ((lastT nVersion (f.take k)).isSome = V) := ⟨_, rfl⟩
      rw [HV0.out] at a0 HI
      rw [HM0.out] at a1 HI
      rw [HS0.out]
      have ag1 : ¬ A = g := hAg
      have ag2 : ¬ g = A := fun e => hAg e.symm
      clear hn hu hb hcs hI hAg
      by_cases cv : n = [86, 101, 114, 115, 105, 111, 110]
      · have ct : n ≠ [84, 105, 109, 101] := by rw [cv]; decide
        have e1 : (n == [86, 101, 114, 115, 105, 111, 110]) = true := by rw [cv]; rfl
        have e2 : (n == [84, 105, 109, 101]) = false := by rw [cv]; rfl
        cases b with
        | true =>
          have hnv : f[k].1 = nVersion := HNn.out.symm.trans cv
          have hbb : f[k].2.isSome = true := HBb.out.symm
          have hnt : ¬ (f[k].1 = nTime ∧ f[k].2.isSome = true) := fun h => ct (HNn.out.trans h.1)
          clear cv ct
          have hsT : true = (lastT nVersion (f.take k ++ [f[k]])).isSome := by
            rw [lastT_snoc]
            rw [if_pos ⟨hnv, hbb⟩]
            first | exact hbb.symm | exact HU.out
          have hV : u = (lastT nVersion (f.take k ++ [f[k]])).getD [] := by
            rw [lastT_snoc]
            rw [if_pos ⟨hnv, hbb⟩]
            first | exact hbb.symm | exact HU.out
          have hM : M0 = (lastT nTime (f.take k ++ [f[k]])).getD [] := by
            rw [lastT_snoc]
            rw [if_neg hnt]
            exact HM0.out.symm
          have HF := rirel_step hkl (HI.out.set0 HAw.out HAR.out (V' := u)) hsT hV hM
          have HF' : Hid (RIRel w A R f (some ⟨g, 0, none⟩) (.bool true) (.int .i64 ((k : Int) + 1)) _) := HF
          clear hsT hV hM HF hnv hnt hbb
          go_wp2
          go_roundw
          case rel => exact HF'.out
          case measure => simp [intOf]; omega
        | false =>
          have hbb : f[k].2.isSome = false := HBb.out.symm
          have hnv : ¬ (f[k].1 = nVersion ∧ f[k].2.isSome = true) := fun h => by rw [hbb] at h; cases h.2
          have hnt : ¬ (f[k].1 = nTime ∧ f[k].2.isSome = true) := fun h => ct (HNn.out.trans h.1)
          clear cv ct
          have hsT : sm0 = (lastT nVersion (f.take k ++ [f[k]])).isSome := by
            rw [lastT_snoc]
            rw [if_neg hnv]
            first | exact HS0.out.symm | exact HV0.out.symm
          have hV : V0 = (lastT nVersion (f.take k ++ [f[k]])).getD [] := by
            rw [lastT_snoc]
            rw [if_neg hnv]
            first | exact HS0.out.symm | exact HV0.out.symm
          have hM : M0 = (lastT nTime (f.take k ++ [f[k]])).getD [] := by
            rw [lastT_snoc]
            rw [if_neg hnt]
            exact HM0.out.symm
          have HF := rirel_step hkl HI.out hsT hV hM
          have HF' : Hid (RIRel w A R f (some ⟨g, 0, none⟩) (.bool sm0) (.int .i64 ((k : Int) + 1)) _) := HF
          clear hsT hV hM HF hnv hnt hbb
          go_wp2
          go_roundw
          case rel => exact HF'.out
          case measure => simp [intOf]; omega
      · have e1 : (n == [86, 101, 114, 115, 105, 111, 110]) = false := by simpa using cv
        by_cases ct : n = [84, 105, 109, 101]
        · have e2 : (n == [84, 105, 109, 101]) = true := by rw [ct]; rfl
          cases b with
          | true =>
            have hnt : f[k].1 = nTime := HNn.out.symm.trans ct
            have hbb : f[k].2.isSome = true := HBb.out.symm
            have hnv : ¬ (f[k].1 = nVersion ∧ f[k].2.isSome = true) := fun h => cv (HNn.out.trans h.1)
            clear cv ct
            have hsT : sm0 = (lastT nVersion (f.take k ++ [f[k]])).isSome := by
              rw [lastT_snoc]
              rw [if_neg hnv]
              first | exact HS0.out.symm | exact HV0.out.symm
            have hV : V0 = (lastT nVersion (f.take k ++ [f[k]])).getD [] := by
              rw [lastT_snoc]
              rw [if_neg hnv]
              first | exact HS0.out.symm | exact HV0.out.symm
            have hM : u = (lastT nTime (f.take k ++ [f[k]])).getD [] := by
              rw [lastT_snoc]
              rw [if_pos ⟨hnt, hbb⟩]
              exact HU.out
            have HF := rirel_step hkl (HI.out.set1 HAw.out HAR.out (M' := u)) hsT hV hM
            have HF' : Hid (RIRel w A R f (some ⟨g, 0, none⟩) (.bool sm0) (.int .i64 ((k : Int) + 1)) _) := HF
            clear hsT hV hM HF hnv hnt hbb
            go_wp2
            go_roundw
            case rel => exact HF'.out
            case measure => simp [intOf]; omega
          | false =>
            have hbb : f[k].2.isSome = false := HBb.out.symm
            have hnv : ¬ (f[k].1 = nVersion ∧ f[k].2.isSome = true) := fun h => cv (HNn.out.trans h.1)
            have hnt : ¬ (f[k].1 = nTime ∧ f[k].2.isSome = true) := fun h => by rw [hbb] at h; cases h.2
            clear cv ct
            have hsT : sm0 = (lastT nVersion (f.take k ++ [f[k]])).isSome := by
              rw [lastT_snoc]
              rw [if_neg hnv]
              first | exact HS0.out.symm | exact HV0.out.symm
            have hV : V0 = (lastT nVersion (f.take k ++ [f[k]])).getD [] := by
              rw [lastT_snoc]
              rw [if_neg hnv]
              first | exact HS0.out.symm | exact HV0.out.symm
            have hM : M0 = (lastT nTime (f.take k ++ [f[k]])).getD [] := by
              rw [lastT_snoc]
              rw [if_neg hnt]
              exact HM0.out.symm
            have HF := rirel_step hkl HI.out hsT hV hM
            have HF' : Hid (RIRel w A R f (some ⟨g, 0, none⟩) (.bool sm0) (.int .i64 ((k : Int) + 1)) _) := HF
            clear hsT hV hM HF hnv hnt hbb
            go_wp2
            go_roundw
            case rel => exact HF'.out
            case measure => simp [intOf]; omega
        · have e2 : (n == [84, 105, 109, 101]) = false := by simpa using ct
          have hbb : True := trivial
          have hnv : ¬ (f[k].1 = nVersion ∧ f[k].2.isSome = true) := fun h => cv (HNn.out.trans h.1)
          have hnt : ¬ (f[k].1 = nTime ∧ f[k].2.isSome = true) := fun h => ct (HNn.out.trans h.1)
          clear cv ct
          have hsT : sm0 = (lastT nVersion (f.take k ++ [f[k]])).isSome := by
            rw [lastT_snoc]
            rw [if_neg hnv]
            first | exact HS0.out.symm | exact HV0.out.symm
          have hV : V0 = (lastT nVersion (f.take k ++ [f[k]])).getD [] := by
            rw [lastT_snoc]
            rw [if_neg hnv]
            first | exact HS0.out.symm | exact HV0.out.symm
          have hM : M0 = (lastT nTime (f.take k ++ [f[k]])).getD [] := by
            rw [lastT_snoc]
            rw [if_neg hnt]
            exact HM0.out.symm
          have HF := rirel_step hkl HI.out hsT hV hM
          have HF' : Hid (RIRel w A R f (some ⟨g, 0, none⟩) (.bool sm0) (.int .i64 ((k : Int) + 1)) _) := HF
          clear hsT hV hM HF hnv hnt hbb
          go_wp2
          go_roundw
          case rel => exact HF'.out
          case measure => simp [intOf]; omega
    · have hkl' : ¬ (k : Int) < (f.length : Int) := by omega
      have hke : f.take k = f := List.take_of_length_le (by omega)
      rw [hke] at hI ⊢
      have HT : Hid (object s.data.toList = some f → infoP s.data.toList = (lastT nVersion f).bind fun v => if parseV v = none then none else some (v, (lastT nTime f).getD [])) := infoP_T
      have hvs := lastT_size nVersion f HSm.out
      obtain ⟨V, HV⟩ : ∃ V, Hid ((lastT nVersion f).getD [] = V) := ⟨_, rfl⟩
      obtain ⟨M, HM⟩ : ∃ V, Hid ((lastT nTime f).getD [] = V) := ⟨_, rfl⟩
      rw [HV.out] at hI hvs
      rw [HM.out] at hI HT
      have a0 := hI.c0
      have a1 := hI.c1
      have hR2 := hI.res
      have hB2 := hI.bel
      have hz2 := hB2.size
      clear hke hI hk
      go_wp2_with fail
      refine (Go.Proofs.YtfngjfnakokgmaaGreatDoor.refVersion_walk ⟨V.toArray⟩ _ (by show V.toArray.size ≤ _; simp; omega)).mono ?_
      rintro e w3 ⟨he, hb3⟩
      have hB3 := hB2.trans (hb3.mono hz2)
      have hz3 := hB3.size
      have p0 := Go.Proofs.YtfngjfnakokgmaaGreatDoor.cell_below hb3 a0
      have p1 := Go.Proofs.YtfngjfnakokgmaaGreatDoor.cell_below hb3 a1
      have hR3 := hR2.below hb3
      have key : ∃ (isv : Bool) (n0 n1 n2 : Int) (ao' : Option Addr) (nn cc : Nat), e = .returned (.tuple #[.agg #[.int .i64 n0, .int .i64 n1, .int .i64 n2, .slice ao' nn cc], .bool isv]) ∧ (isv = true ↔ parseV V ≠ none) := by
        rcases he with ⟨x, vv, hx, rfl, hv⟩ | ⟨hx, n0, n1, n2, ao, n, cap, rfl⟩
        · obtain ⟨p0, p1, p2, mv, L, rfl, rfl, hM⟩ := hv
          obtain ⟨ao', cap', rfl⟩ := hM.slice
          have hx2 : parseV V ≠ none := fun e => by
            have hx3 : parseV V = some _ := hx
            rw [e] at hx3; cases hx3
          exact ⟨true, _, _, _, _, _, _, rfl, fun _ => hx2, fun _ => rfl⟩
        · refine ⟨false, _, _, _, _, _, _, rfl, fun e => (by cases e), fun h => absurd (show parseV V = none from hx) h⟩
      clear he a0 a1 hR2 hb3
      obtain ⟨isv, n0, n1, n2, ao', nn, cc, rfl, hiv⟩ := key
      have hb4 := below_one w3 (.cells #[.int .i64 n0, .int .i64 n1, .int .i64 n2, .slice ao' nn cc] 58)
      have hB4 := hB3.trans (hb4.mono hz3)
      have p0' := Go.Proofs.YtfngjfnakokgmaaGreatDoor.cell_below hb4 p0
      have p1' := Go.Proofs.YtfngjfnakokgmaaGreatDoor.cell_below hb4 p1
      have hR4 := hR3.below hb4
      obtain ⟨v0, r0⟩ := hR4.c0
      obtain ⟨v1, r1⟩ := hR4.c1
      have rf := hR4.f
      obtain ⟨sm, HSs⟩ : ∃ V, Hid ((lastT nVersion f).isSome = V) := ⟨_, rfl⟩
      rw [HSs.out]
      have HIv : Hid (isv = true ↔ parseV V ≠ none) := hiv
      clear hb4 hR3 hR4 p0 p1 hiv
      by_cases hok : ok = true ∧ sm = true ∧ isv = true
      · obtain ⟨rfl, rfl, rfl⟩ := hok
        have HF : Hid (infoP s.data.toList = some (V, M)) := by
          show _ = _
          rw [HT.out (HO1.out rfl)]
          have h1 := HSs.out
          have h2 := HV.out
          cases hl : lastT nVersion f with
          | none => rw [hl] at h1; cases h1
          | some v =>
            rw [hl] at h2
            have h2 : v = V := h2
            rw [Option.bind_some, h2, if_neg (HIv.out.1 rfl)]
        go_wp2
        refine bodyPost_ret (v := .tuple #[.agg #[.string ⟨V.toArray⟩, .string ⟨M.toArray⟩], .int .i64 0]) (by simp [results, Tryz.results5, go_sem, r0, r1]) rfl ⟨by rw [HF.out]; rfl, below_set2 hB4 _ (by rw [HR.out]; exact Nat.le_refl _) _ _⟩
      · have HF : Hid (infoP s.data.toList = none) := by
          show _ = _
          cases ok with
          | false => unfold infoP; rw [HO2.out rfl]; rfl
          | true =>
            rw [HT.out (HO1.out rfl)]
            have h1 := HSs.out
            have h2 := HV.out
            cases hl : lastT nVersion f with
            | none => rfl
            | some v =>
              rw [hl] at h1 h2
              have h2 : v = V := h2
              have h1 : sm = true := h1.symm
              rw [Option.bind_some, h2]
              rw [if_pos]
              cases hp : parseV V with
              | none => rfl
              | some x => exact absurd ⟨rfl, h1, HIv.out.2 (by rw [hp]; simp)⟩ hok
        cases ok <;> cases sm <;> cases isv
        all_goals first
          | (exfalso; exact hok ⟨rfl, rfl, rfl⟩)
          | (clear hok
             go_wp2
             refine bodyPost_ret (v := .tuple #[.agg #[.string ⟨#[]⟩, .string ⟨#[]⟩], .int .i64 8]) (by simp [results, Tryz.results5, go_sem, r0, r1]) rfl ⟨by rw [HF.out]; rfl, below_set2 hB4 _ (by rw [HR.out]; exact Nat.le_refl _) _ _⟩)
end Go.Proofs.YtfngjfnakokgmaaGreatDoor.Txt
