/- What the machine leaves alone, and what its callers lay beside it; repeat. -/
import Derived.Test.YtjilhneefbakhaaDoorCodeD
import Derived.Deep.RegionHeld3
namespace Go.Proofs.YtjilhneefbakhaaDoor.Inf
open Go.RowKit Go.Proofs.YtjilhneefbakhaaDoor.Sha

theorem wrapNat (y : Nat) (hy : y < 9223372036854775808) : IntKind.i64.wrap (y : Int) = (y : Int) := by
  have ey : ((y : Int) % 2 ^ 64) = (y : Int) := by omega
  simp only [IntKind.wrap, IntKind.bits, IntKind.signed, ey]
  rw [if_neg]
  simp only [Bool.true_and, decide_eq_true_eq]
  omega
section
variable {mb base : Nat} {s : ByteArray} {a b : Nat} {out : List UInt8} {most : Nat} {bad : Bool} {w w' : World}
theorem MA.outlt (h : MA mb base s a b out most bad w) {k : Nat} (ho : outB mb w k) : k < w.heap.size ∧ base ≤ k := by
  obtain ⟨i, n, c, ho⟩ := ho
  obtain ⟨v, c3, hv⟩ := h.c3
  rw [c3] at ho
  injection ho with ho
  subst ho
  rcases hv with ⟨hv, _⟩ | ⟨g, cap, hv, h1, h2, _⟩
  · cases hv
  · cases hv; exact ⟨h2, h1⟩
/-- What is done away from the machine. -/
theorem MA.away (h : MA mb base s a b out most bad w) (hs : w.heap.size ≤ w'.heap.size) (hk : ∀ k, k = mb ∨ outB mb w k → w'.heap[k]? = w.heap[k]?) : MA mb base s a b out most bad w' := by
  have cc : ∀ j, w'.cell? ⟨mb, j, none⟩ = w.cell? ⟨mb, j, none⟩ := fun j => World.cell?_of_block (a := ⟨mb, j, none⟩) (w := w) (hk mb (.inl rfl))
  have ff : ∀ (k : Nat), w'.heap[k]? = w.heap[k]? → ∀ j, w'.frozen? ⟨k, j, none⟩ = w.frozen? ⟨k, j, none⟩ := fun k e j => by unfold World.frozen?; rw [e]
  obtain ⟨v, c3, hv⟩ := h.c3
  obtain ⟨ev, c5, he⟩ := h.c5
  refine ⟨(cc 0).trans h.c0, (cc 1).trans h.c1, (cc 2).trans h.c2, ⟨v, (cc 3).trans c3, ?_⟩, (cc 4).trans h.c4, ⟨ev, (cc 5).trans c5, he⟩, fun j => (ff mb (hk mb (.inl rfl)) j).trans (h.fro j), h.lt, Nat.le_trans h.bl hs⟩
  rcases hv with hv | ⟨g, cap, hv, h1, h2, h3, h4, h5⟩
  · exact .inl hv
  · have hg := hk g (.inr ⟨0, _, cap, by rw [c3, hv]⟩)
    refine .inr ⟨g, cap, hv, h1, Nat.lt_of_lt_of_le h2 hs, h3, fun j u hj => ?_, fun j hj => ?_⟩
    · rw [World.cell?_of_block (a := ⟨g, j, none⟩) (w := w) hg]; exact h4 j u hj
    · rw [World.cell?_of_block (a := ⟨g, j, none⟩) (w := w) hg, ff g hg j]; exact h5 j hj
theorem MA.set (h : MA mb base s a b out most bad w) {k : Nat} (ha : Apart mb w k) (j : Nat) (v : Value) : MA mb base s a b out most bad (w.setCell ⟨k, j, none⟩ v) :=
  h.away (by simp) (fun i hi => Below.heap_setCell w ⟨k, j, none⟩ v i (by rintro rfl; rcases hi with hi | hi; exact ha.2.1 hi; exact ha.2.2 hi))
theorem MA.sets (h : MA mb base s a b out most bad w) {k : Nat} (ha : Apart mb w k) (j : Nat) (vs : List Value) : MA mb base s a b out most bad (w.setCells k j vs) :=
  h.away (by rw [size_setCells]; exact Nat.le_refl _) (fun i hi => heap_setCells k i (by rintro rfl; rcases hi with hi | hi; exact ha.2.1 hi; exact ha.2.2 hi) vs j w)
theorem MA.grow (h : MA mb base s a b out most bad w) (hb : Below w.heap.size w w') : MA mb base s a b out most bad w' :=
  h.away hb.size (fun i hi => by
    rcases hi with rfl | hi
    · exact hb.block i (Nat.lt_of_lt_of_le h.lt h.bl)
    · exact hb.block i (h.outlt hi).1)
theorem Kept.below {wr : World} (h : Kept mb base w wr) (hb : Below w.heap.size wr w') (hl : mb < base) (hbl : base ≤ w.heap.size) : Kept mb base w w' :=
  ⟨hb.os.trans h.os, hb.tape.trans h.tape, hb.output.trans h.output, Nat.le_trans h.size hb.size, fun k hk hn => (hb.block k (Nat.lt_of_lt_of_le hk hbl)).trans (h.block k hk hn), fun k hk hn ho => (hb.block k hk).trans (h.old k hk hn ho), fun k hk ⟨i, n, c, ho⟩ => h.out k hk ⟨i, n, c, by rw [← hb.cell (p := ⟨mb, 3, none⟩) (Nat.lt_of_lt_of_le hl hbl)]; exact ho⟩⟩
theorem Apart.fresh (h : MA mb base s a b out most bad w) (hb : Below w.heap.size w w') {k : Nat} (hk : w.heap.size ≤ k) (hk2 : k < w'.heap.size) : Apart mb w' k := by
  refine ⟨hk2, by have := h.lt; have := h.bl; omega, fun ⟨i, n, c, ho⟩ => ?_⟩
  rw [hb.cell (p := ⟨mb, 3, none⟩) (Nat.lt_of_lt_of_le h.lt h.bl)] at ho
  have := (h.outlt ⟨i, n, c, ho⟩).1
  omega
/-- The machine's cells are as they were. -/
theorem Apart.same {k : Nat} (h : Apart mb w k) (hs : w.heap.size ≤ w'.heap.size) (hc : w'.cell? ⟨mb, 3, none⟩ = w.cell? ⟨mb, 3, none⟩) : Apart mb w' k :=
  ⟨Nat.lt_of_lt_of_le h.1 hs, h.2.1, fun ⟨i, n, c, ho⟩ => h.2.2 ⟨i, n, c, by rw [← hc]; exact ho⟩⟩
theorem Blk.kept {xs : List Nat} {k : Nat} (h : Blk w k xs) (hk : Kept mb base w w') (ha : Apart mb w k) : Blk w' k xs := by
  have e := (hk.apart ha).2
  refine ⟨fun j x hj => ?_, fun j hj => ?_⟩
  · rw [World.cell?_of_block (a := ⟨k, j, none⟩) (w := w) e]; exact h.cell j x hj
  · unfold World.frozen?; rw [e]; exact h.fro j hj
end
section
variable {mb base : Nat} {s : ByteArray} {pos : Nat} {out : List UInt8} {most : Nat} {bad : Bool} {w : World}
/-- What repeat leaves. -/
def RepPost (mb base : Nat) (s : ByteArray) (pos : Nat) (out : List UInt8) (most : Nat) (bad : Bool) (d : Nat) (R : Option (List UInt8)) (w w' : World) : Prop :=
  ∃ (o' : List UInt8) (bd : Bool), o'.length ≤ most ∧ MW mb base s pos o' most bd w' ∧ Kept mb base w w' ∧ (bd = false → bad = false ∧ d ≤ out.length ∧ R = some o') ∧ (bad = false → d ≤ out.length → R ≠ none → bd = false)
set_option maxRecDepth 100000 in
set_option maxHeartbeats 4000000 in
theorem repeat_walk (n d : Nat) (h : MW mb base s pos out most bad w) (hm : out.length ≤ most) (hm2 : most ≤ 8000) (hD : DefW w) (hg : 33 ≤ mb) (hn : n ≤ 1000) (hd : 1 ≤ d) (hd2 : d ≤ 100000) :
    Calls Tryd.prog 48 #[.pointer (some ⟨mb, 0, none⟩), .int .i64 (n : Int), .int .i64 (d : Int)] w fun e w' => e = .returned (.tuple #[]) ∧ RepPost mb base s pos out most bad d (repP most d n out) w w' := by
  have hlb : mb < base := MA.lt h
  obtain ⟨R, HR⟩ : ∃ R, Hid (repP most d n out = R) := ⟨_, rfl⟩
  rw [HR.out]
  obtain ⟨v, c3, ho⟩ := MA.c3 h
  obtain ⟨ao, cap, hv⟩ := own_slice ho
  subst hv
  obtain ⟨L0, HL0⟩ : ∃ L, Hid (out.length = L) := ⟨_, rfl⟩
  rw [HL0.out] at c3
  go_enter Tryd.func48, Tryd.ntmps48
  by_cases hgt : L0 < d
  · have hgt' : (L0 : Int) < (d : Int) := by omega
    obtain ⟨x, hx⟩ := hD.dist
    go_wp2_with fail
    refine (fail_walk x h).mono ?_
    rintro e w2 ⟨rfl, hM2, k2⟩
    have HN : Hid (¬ d ≤ out.length) := by show ¬ _; have := HL0.out; omega
    have HM2 : Hid (MW mb base s pos out most true w2) := hM2
    clear hM2 h hx c3
    go_wp2_with fail
    go_loopw [17] (fun i wr => ∃ k : Nat, k ≤ n ∧ i = .int .i64 k ∧ MW mb base s pos out most true wr ∧ Kept mb base w wr) (fun i _ => n - (intOf i).toNat)
    case atStart => exact ⟨0, by omega, rfl, HM2.out, k2⟩
    case round =>
      clear HM2 k2
      obtain ⟨k, hk, rfl, hM, hK⟩ := hrel
      obtain ⟨ev, c5, y, rfl⟩ := MA.c5 hM
      have HM : Hid (MW mb base s pos out most true wr) := hM
      clear hM
      by_cases hlt : k < n
      · have hlt' : (k : Int) < (n : Int) := by omega
        go_wp2
        exact bodyPost_ret (results_none rfl _ _ _) rfl ⟨rfl, out, true, hm, HM.out, hK, (by intro hc; cases hc), fun _ hq _ => absurd hq HN.out⟩
      · have hlt' : ¬ (k : Int) < (n : Int) := by omega
        go_wp2
        go_end0
        exact ⟨rfl, out, true, hm, HM.out, hK, (by intro hc; cases hc), fun _ hq _ => absurd hq HN.out⟩
  · have hgt' : ¬ (L0 : Int) < (d : Int) := by omega
    have hdl : d ≤ out.length := by have := HL0.out; omega
    have HM0 : Hid (MW mb base s pos out most bad w) := h
    clear h
    go_wp2_with fail
    go_loopw [17] (fun i wr => ∃ (k : Nat) (o' : List UInt8) (bd : Bool), k ≤ n ∧ i = .int .i64 k ∧ MW mb base s pos o' most bd wr ∧ Kept mb base w wr ∧ o'.length ≤ most ∧ d ≤ o'.length ∧ Hid ((bd = false → bad = false ∧ repP most d (n - k) o' = R) ∧ (bd = true → bad = true ∨ R = none))) (fun i _ => n - (intOf i).toNat)
    case atStart => exact ⟨0, out, bad, by omega, rfl, HM0.out, Kept.refl _ _ _, hm, hdl, ⟨fun hb => ⟨hb, HR.out⟩, fun hb => .inl hb⟩⟩
    case round =>
      clear HM0 c3 ho hgt hgt'
      obtain ⟨k, o', bd, hk, rfl, hM, hK, hm', hd', HI⟩ := hrel
      have HBad : Hid (bd = true → bad = false → R ≠ none → False) := fun h1 h2 h3 => by
        rcases HI.out.2 h1 with h | h
        · rw [h2] at h; cases h
        · exact h3 h
      by_cases hlt : k < n
      · have hlt' : (k : Int) < (n : Int) := by omega
        obtain ⟨ev, c5, he⟩ := MA.c5 hM
        cases bd with
        | true =>
          obtain ⟨y, rfl⟩ := he
          have HM : Hid (MW mb base s pos o' most true wr) := hM
          clear hM
          go_wp2
          exact bodyPost_ret (results_none rfl _ _ _) rfl ⟨rfl, o', true, hm', HM.out, hK, (by intro hc; cases hc), fun h1 _ h2 => absurd h2 fun h2 => HBad.out (by first | rfl | trivial) h1 h2⟩
        | false =>
          cases he
          obtain ⟨v', c3, ho⟩ := MA.c3 hM
          obtain ⟨ao', cap', hv⟩ := own_slice ho
          subst hv
          obtain ⟨g, cap2, hv2⟩ := Own.form ho (by intro hc; have := congrArg List.length hc; simp at this; subst this; simp at hd'; omega)
          rw [List.length_map] at hv2
          injection hv2 with e1 _ e3
          subst e1
          obtain ⟨y, HY⟩ : ∃ y, Hid (o'[o'.length - d]? = some y ∧ o'.getD (o'.length - d) 0 = y) := ⟨o'[o'.length - d]'(by omega), List.getElem?_eq_getElem (by omega), by rw [List.getD_eq_getElem?_getD, List.getElem?_eq_getElem (by omega)]; rfl⟩
          have hcy : wr.cell? ⟨g, o'.length - d, none⟩ = some (.int .u8 (y.toNat : Int)) := by
            rcases ho with ⟨hv, _⟩ | ⟨g', cap3, hv, _, _, _, h4, _⟩
            · cases hv
            · injection hv with hv1; injection hv1 with hv1; injection hv1 with hv1
              subst hv1
              exact h4 _ (u8v y) (by rw [List.getElem?_map, HY.out.1]; rfl)
          obtain ⟨L, HL⟩ : ∃ L, Hid (o'.length = L) := ⟨_, rfl⟩
          rw [HL.out] at c3 hcy
          obtain ⟨D, HDD⟩ : ∃ D, Hid (L - d = D) := ⟨_, rfl⟩
          rw [HDD.out] at hcy
          have hLD : (L : Int) - (d : Int) = (D : Int) := by have := HL.out; have := HDD.out; omega
          have hDL : (D : Int) < (L : Int) := by have := HL.out; have := HDD.out; omega
          have hD0 : (0 : Int) ≤ (D : Int) := by omega
          have hwr : IntKind.i64.wrap ((L : Int) - (d : Int)) = (L : Int) - (d : Int) := by rw [hLD]; exact wrapNat _ (by have := HL.out; omega)
          have hi1 : (0 : Int) ≤ (L : Int) - (d : Int) := by omega
          have hi2 : (L : Int) - (d : Int) < (L : Int) := by omega
          have hi3 : ((L : Int) - (d : Int)).toNat = D := by omega
          have hi4 : (d : Int) ≤ (L : Int) := by omega
          have hi5 : (0 : Int) < (d : Int) := by omega
          have hDr := (hD.kept hK hg hlb)
          have hMd : MA mb base s (pos / 8) (pos % 8) o' most false wr.drew := MA.drew hM 1
          have hDd : DefW wr.drew := hDr.kept (mb := mb) (base := base) (Kept.drew 1) hg hlb
          have hKd : Kept mb base w wr.drew := hK.trans (Kept.drew 1)
          have HRR : Hid (bad = false ∧ repP most d (n - k) o' = R) := HI.out.1 rfl
          have HM : Hid (MW mb base s pos o' most false wr) := hM
          clear hM ho HI hLD
          go_wp2_with fail
          go_still_tail 14, (by kernel_rfl)
          go_wp2_with fail
          refine (put_walk y hMd hm' hm2 hDd).mono ?_
          rintro e w2 ⟨rfl, k2, HPut⟩
          have K2 := hKd.trans k2
          obtain ⟨o2, bd2, HM2, HP2⟩ : ∃ o2 bd2, Hid (MW mb base s pos o2 most bd2 w2) ∧ Hid (o2.length ≤ most ∧ d ≤ o2.length ∧ (bd2 = false → bad = false ∧ repP most d (n - (k + 1)) o2 = R) ∧ (bd2 = true → bad = true ∨ R = none)) := by
            have h1 := HRR.out.2
            rw [show n - k = (n - (k + 1)) + 1 by omega, repP] at h1
            by_cases hlm : o'.length = most
            · rw [if_pos hlm] at h1
              exact ⟨o', true, HPut.out.1 hlm, hm', hd', (by intro hc; cases hc), fun _ => .inr h1.symm⟩
            · rw [if_neg hlm, HY.out.2] at h1
              exact ⟨o' ++ [y], false, HPut.out.2 hlm, by simp; omega, by simp; omega, fun _ => ⟨HRR.out.1, h1⟩, (by intro hc; cases hc)⟩
          clear HPut k2 hMd hDd hKd hK c3 hcy hDr
          go_wp2
          go_roundw
          case rel => exact ⟨k + 1, o2, bd2, by omega, by go_num, HM2.out, K2, HP2.out.1, HP2.out.2.1, HP2.out.2.2⟩
          case measure => simp [intOf]; omega
      · have hlt' : ¬ (k : Int) < (n : Int) := by omega
        have hkn : k = n := by omega
        go_wp2
        go_end0
        exact ⟨rfl, o', bd, hm', hM, hK, fun hb => ⟨(HI.out.1 hb).1, hdl, by have := (HI.out.1 hb).2; rw [hkn, Nat.sub_self] at this; exact this.symm⟩, fun h1 _ h2 => by cases bd with
          | false => rfl
          | true => exact (HBad.out rfl h1 h2).elim⟩
end
end Go.Proofs.YtjilhneefbakhaaDoor.Inf
