/- A block of codes. -/
import Derived.Test.YtjilhneefbakhaaDoorCodeI
namespace Go.Proofs.YtjilhneefbakhaaDoor.Inf
open Go.RowKit Go.Proofs.YtjilhneefbakhaaDoor.Sha

theorem tab_get {L : List Nat} {n : Nat} (hL : L.length = n) (i : Nat) (hi : i < n) : ∃ x, L[i]? = some x ∧ L.getD i 0 = x := ⟨L[i]'(by omega), List.getElem?_eq_getElem (by omega), by rw [List.getD_eq_getElem?_getD, List.getElem?_eq_getElem (by omega)]; rfl⟩
theorem lenBits_le (i : Nat) : lenBits.getD i 0 ≤ 5 := by
  have : ∀ x ∈ lenBits, x ≤ 5 := by decide +kernel
  rw [List.getD_eq_getElem?_getD]
  cases h : lenBits[i]? with
  | none => exact Nat.zero_le _
  | some x => exact this x (List.mem_of_getElem? h)
theorem disBits_le (i : Nat) : disBits.getD i 0 ≤ 13 := by
  have : ∀ x ∈ disBits, x ≤ 13 := by decide +kernel
  rw [List.getD_eq_getElem?_getD]
  cases h : disBits[i]? with
  | none => exact Nat.zero_le _
  | some x => exact this x (List.mem_of_getElem? h)
theorem lenBase_le {i x : Nat} (h : lenBase[i]? = some x) : x ≤ 258 := by
  have : ∀ x ∈ lenBase, x ≤ 258 := by decide +kernel
  exact this x (List.mem_of_getElem? h)
theorem disBase_le {i x : Nat} (h : disBase[i]? = some x) : 1 ≤ x ∧ x ≤ 24577 := by
  have : ∀ x ∈ disBase, 1 ≤ x ∧ x ≤ 24577 := by decide +kernel
  exact this x (List.mem_of_getElem? h)
theorem packG_eq (near far : List Nat) (s : ByteArray) (most f pos : Nat) (o : List UInt8) : packG near far s most (f + 1) pos o = (match symP near s pos with
    | none => none
    | some (x, p) => if x < 256 then (if o.length = most then none else packG near far s most f p (o ++ [UInt8.ofNat x])) else if x = 256 then some (p, o) else if 285 < x then none else
      match copyP far s most x p o with
      | none => none
      | some (q, o') => packG near far s most f q o') := by kernel_rfl
theorem packG_more {near far : List Nat} {s : ByteArray} {most f pos : Nat} {o : List UInt8} {x p : Nat} (h : symP near s pos = some (x, p)) : packG near far s most (f + 1) pos o = (if x < 256 then (if o.length = most then none else packG near far s most f p (o ++ [UInt8.ofNat x])) else if x = 256 then some (p, o) else if 285 < x then none else
      match copyP far s most x p o with
      | none => none
      | some (q, o') => packG near far s most f q o') := by
  rw [packG_eq, h]
theorem packG_none {near far : List Nat} {s : ByteArray} {most f pos : Nat} {o : List UInt8} (h : symP near s pos = none) : packG near far s most (f + 1) pos o = none := by
  rw [packG_eq, h]
theorem copyP_n1 {far : List Nat} {s : ByteArray} {most x p : Nat} {o : List UInt8} (h1 : takeP s p (lenBits.getD (x - 257) 0) = none) : copyP far s most x p o = none := by unfold copyP; rw [h1]
theorem copyP_n2 {far : List Nat} {s : ByteArray} {most x p v q : Nat} {o : List UInt8} (h1 : takeP s p (lenBits.getD (x - 257) 0) = some (v, q)) (h2 : symP far s q = none) : copyP far s most x p o = none := by unfold copyP; rw [h1]; dsimp only; rw [h2]
theorem copyP_n3 {far : List Nat} {s : ByteArray} {most x p v q k q2 : Nat} {o : List UInt8} (h1 : takeP s p (lenBits.getD (x - 257) 0) = some (v, q)) (h2 : symP far s q = some (k, q2)) (h3 : 29 < k) : copyP far s most x p o = none := by
  unfold copyP
  rw [h1]
  dsimp only
  rw [h2]
  dsimp only
  rw [if_pos h3]
theorem copyP_n4 {far : List Nat} {s : ByteArray} {most x p v q k q2 : Nat} {o : List UInt8} (h1 : takeP s p (lenBits.getD (x - 257) 0) = some (v, q)) (h2 : symP far s q = some (k, q2)) (h3 : ¬ 29 < k) (h4 : takeP s q2 (disBits.getD k 0) = none) : copyP far s most x p o = none := by
  unfold copyP
  rw [h1]
  dsimp only
  rw [h2]
  dsimp only
  rw [if_neg h3, h4]
theorem copyP_eq {far : List Nat} {s : ByteArray} {most x p v q k q2 y q3 : Nat} {o : List UInt8} (h1 : takeP s p (lenBits.getD (x - 257) 0) = some (v, q)) (h2 : symP far s q = some (k, q2)) (h3 : ¬ 29 < k) (h4 : takeP s q2 (disBits.getD k 0) = some (y, q3)) : copyP far s most x p o = if o.length < disBase.getD k 0 + y then none else (repP most (disBase.getD k 0 + y) (lenBase.getD (x - 257) 0 + v) o).map fun o' => (q3, o') := by
  unfold copyP
  rw [h1]
  dsimp only
  rw [h2]
  dsimp only
  rw [if_neg h3, h4]
section
variable {mb base cb : Nat} {s : ByteArray} {pos : Nat} {out : List UInt8} {most : Nat} {near far : List Nat} {w : World}
/-- What packed leaves. -/
def PackPost (mb base : Nat) (s : ByteArray) (most : Nat) (R : Option (Nat × List UInt8)) (w w' : World) : Prop :=
  ∃ (p : Nat) (o : List UInt8) (bd : Bool), p ≤ 8 * s.size ∧ o.length ≤ most ∧ MW mb base s p o most bd w' ∧ Kept mb base w w' ∧ (bd = false → R = some (p, o)) ∧ (R ≠ none → bd = false)
set_option maxRecDepth 100000 in
set_option maxHeartbeats 4000000 in
theorem packed_good (h : MW mb base s pos out most false w) (hs : s.size ≤ 140737488355328) (hp : pos ≤ 8 * s.size) (hm : out.length ≤ most) (hm2 : most ≤ 8000) (hD : DefW w) (hT : Tabs w) (hg : 33 ≤ mb) (hC1 : CodeK mb w cb 0 near) (hC2 : CodeK mb w cb 17 far) (hl1 : near.length ≤ 1000) (hl2 : far.length ≤ 1000) :
    Calls Tryd.prog 32 #[.pointer (some ⟨mb, 0, none⟩), .pointer (some ⟨cb, 0, none⟩)] w fun e w' => e = .returned (.tuple #[]) ∧ PackPost mb base s most (packP near far s most pos out) w w' := by
  have hlb : mb < base := MA.lt h
  have hbl : base ≤ w.heap.size := MA.bl h
  obtain ⟨R, HR⟩ : ∃ R, Hid (packP near far s most pos out = R) := ⟨_, rfl⟩
  rw [HR.out]
  have HR0 : Hid (packG near far s most (8 * s.size + 1 - pos) pos out = R) := HR.out
  clear HR
  have hC1w := hC1
  have hC2w := hC2
  go_enter Tryd.func32, Tryd.ntmps32
  refine scope_fall (fun n l a' w' => ∃ (p : Nat) (o : List UInt8) (bd : Bool) (zx : Int), (∃ f : Nat → Value, a' = { tmps := #[.pointer (some ⟨mb, 0, none⟩), .pointer (some ⟨cb, 0, none⟩), undef, undef, .int .i64 zx, f 5, f 6, f 7, f 8, f 9, f 10, f 11, f 12, f 13, f 14, f 15, f 16, f 17, f 18, f 19, f 20, f 21, f 22, f 23, f 24, f 25, f 26, f 27, f 28, f 29, f 30, f 31, f 32, f 33, f 34, f 35, f 36, f 37, f 38, f 39, f 40, f 41, f 42, f 43, f 44, f 45, f 46, f 47, f 48, f 49, f 50, f 51, f 52, f 53, f 54, f 55, f 56, f 57, f 58, f 59, f 60, f 61, f 62, f 63, f 64, f 65, f 66], defers := [] }) ∧ MW mb base s p o most bd w' ∧ Kept mb base w w' ∧ p ≤ 8 * s.size ∧ o.length ≤ most ∧ Hid ((bd = true → R = none) ∧ ((l = 0 ∧ n = (if bd = true then 1 else 3 * (8 * s.size + 1 - p) + 1) ∧ (bd = false → ∃ f, 8 * s.size + 1 - p ≤ f ∧ packG near far s most f p o = R)) ∨ (l = 1 ∧ n = (if bd = true then 2 else 3 * (8 * s.size + 1 - p) + 2) ∧ ∃ x : Nat, zx = (x : Int) ∧ x < 256 ∧ (bd = false → ∃ f, 8 * s.size + 1 - p ≤ f ∧ (if o.length = most then none else packG near far s most f p (o ++ [UInt8.ofNat x])) = R)) ∨ (l = 2 ∧ n = (if bd = true then 2 else 3 * (8 * s.size + 1 - p) + 2) ∧ ∃ x : Nat, zx = (x : Int) ∧ 257 ≤ x ∧ x ≤ 285 ∧ (bd = false → ∃ f, 8 * s.size + 1 - p ≤ f ∧ (match copyP far s most x p o with | none => none | some (q, o') => packG near far s most f q o') = R))))) ?_ ?_
  · rintro n ih l a' wr ⟨p, o, bd, zx, ⟨f, rfl⟩, hM, hK, hp, hm, HI⟩
    clear h ih HR0 hC1 hC2
    have hDr := hD.kept hK hg hlb
    have hC1 := hC1w.kept hK
    have hC2 := hC2w.kept hK
    clear hC1w hC2w
    have HBad : Hid (bd = true → R = none) := HI.out.1
    rcases HI.out.2 with ⟨rfl, hn, hI⟩ | ⟨rfl, hn, x, rfl, hx, hI⟩ | ⟨rfl, hn, x, rfl, hx1, hx2, hI⟩
    · clear HI
      have HNn : Hid (n = (if bd = true then 1 else 3 * (8 * s.size + 1 - p) + 1)) := hn
      clear hn
      have HI : Hid (bd = false → ∃ f, 8 * s.size + 1 - p ≤ f ∧ packG near far s most f p o = R) := hI
      clear hI
      refine ⟨_, rfl, ?_⟩
      obtain ⟨ev, c5, he⟩ := MA.c5 hM
      have HM : Hid (MW mb base s p o most bd wr) := hM
      cases bd with
      | true =>
        obtain ⟨y, rfl⟩ := he
        clear hM
        go_wp2
        simp only [jumps]
        exact bodyPost_ret (results_none rfl _ _ _) rfl ⟨rfl, p, o, true, hp, hm, HM.out, hK, (by intro hc; cases hc), fun hn => absurd (HBad.out (by first | rfl | trivial)) hn⟩
      | false =>
        cases he
        have HQ : Hid (∃ f, 8 * s.size + 1 - p ≤ f + 1 ∧ packG near far s most (f + 1) p o = R) := by
          obtain ⟨f1, i2, i3⟩ := HI.out rfl
          obtain ⟨f2, rfl⟩ : ∃ f2, f1 = f2 + 1 := ⟨f1 - 1, by omega⟩
          exact ⟨f2, i2, i3⟩
        go_wp2_with fail
        refine (symbol_walk hM hs hp hDr hg hC1 hl1).mono ?_
        rintro e w2 ⟨x, p2, bd2, rfl, hx, hp2, hM2, k2, HS⟩
        have hK2 := hK.trans k2
        have HM2 : Hid (MW mb base s p2 o most bd2 w2) := hM2
        have hD2 := hD.kept hK2 hg hlb
        have HB2 : Hid (bd2 = true → R = none) := fun hb => by
          rcases Classical.em (symP near s p = none) with h1 | h1
          · obtain ⟨f1, _, hf2⟩ := HQ.out
            rw [packG_none h1] at hf2
            exact hf2.symm
          · rw [HS.out.2 rfl h1] at hb; cases hb
        have HP2 : Hid (bd2 = false → p < p2 ∧ ∃ f, 8 * s.size + 1 - p2 ≤ f ∧ (if x < 256 then (if o.length = most then none else packG near far s most f p2 (o ++ [UInt8.ofNat x])) else if x = 256 then some (p2, o) else if 285 < x then none else
            match copyP far s most x p2 o with
            | none => none
            | some (q, o') => packG near far s most f q o') = R) := fun hb => by
          obtain ⟨_, hsy⟩ := HS.out.1 hb
          obtain ⟨f1, hf1, hf2⟩ := HQ.out
          have hlt := (symP_lt hsy).2.1
          rw [packG_more hsy] at hf2
          exact ⟨hlt, f1, by omega, hf2⟩
        clear hM hK k2 hM2 HM hDr hC1 hC2 c5 hx HQ HS
        by_cases h256 : x < 256
        · have e1 : (x : Int) < 256 := by omega
          go_wp2
          go_step3
          try simp only [Exit.jump]
          exact ⟨_, (by rw [HNn.out]; cases bd2 with
            | true => simp; omega
            | false => have := (HP2.out rfl).1; simp; omega : (if bd2 = true then 2 else 3 * (8 * s.size + 1 - p2) + 2) < n), p2, o, bd2, _, mkF rfl, HM2.out, hK2, hp2, hm, ⟨HB2.out, .inr (.inl ⟨rfl, rfl, x, rfl, h256, fun hb => (by obtain ⟨_, f1, hf1, hf2⟩ := HP2.out hb; rw [if_pos h256] at hf2; exact ⟨f1, hf1, hf2⟩)⟩)⟩⟩
        · have e1 : ¬ (x : Int) < 256 := by omega
          by_cases h2 : x = 256
          · have e2 : ((x : Int) == 256) = true := by simp; omega
            have HF : Hid ((bd2 = false → R = some (p2, o)) ∧ (R ≠ none → bd2 = false)) := by
              refine ⟨fun hb => ?_, fun hn => ?_⟩
              · obtain ⟨_, f1, hf1, hf2⟩ := HP2.out hb
                rw [if_neg h256, if_pos h2] at hf2
                exact hf2.symm
              · cases bd2 with
                | false => rfl
                | true => exact absurd (HB2.out rfl) hn
            clear h2
            go_wp2
            simp only [jumps]
            exact bodyPost_ret (results_none rfl _ _ _) rfl ⟨rfl, p2, o, bd2, hp2, hm, HM2.out, hK2, HF.out⟩
          · have e2 : ((x : Int) == 256) = false := by rw [beq_eq_false_iff_ne]; omega
            by_cases h3 : x ≤ 285
            · have e3 : (x : Int) ≤ 285 := by omega
              go_wp2
              go_step3
              try simp only [Exit.jump]
              exact ⟨_, (by rw [HNn.out]; cases bd2 with
                | true => simp; omega
                | false => have := (HP2.out rfl).1; simp; omega : (if bd2 = true then 2 else 3 * (8 * s.size + 1 - p2) + 2) < n), p2, o, bd2, _, mkF rfl, HM2.out, hK2, hp2, hm, ⟨HB2.out, .inr (.inr ⟨rfl, rfl, x, rfl, by omega, h3, fun hb => (by obtain ⟨_, f1, hf1, hf2⟩ := HP2.out hb; rw [if_neg h256, if_neg h2, if_neg (by omega)] at hf2; exact ⟨f1, hf1, hf2⟩)⟩)⟩⟩
            · have e3 : ¬ (x : Int) ≤ 285 := by omega
              obtain ⟨xe, hxe⟩ := hD2.code
              have HN : Hid (R = none) := by
                cases bd2 with
                | true => exact HB2.out rfl
                | false =>
                  obtain ⟨_, f1, hf1, hf2⟩ := HP2.out rfl
                  rw [if_neg h256, if_neg h2, if_pos (by omega)] at hf2
                  exact hf2.symm
              go_wp2_with fail
              refine (fail_walk xe HM2.out).mono ?_
              rintro e w3 ⟨rfl, hM3, k3⟩
              have HM3 : Hid (MW mb base s p2 o most true w3) := hM3
              have hK3 := hK2.trans k3
              clear hM3 k3 hxe hK2 HM2 hD2
              go_wp2
              simp only [jumps]
              exact bodyPost_ret (results_none rfl _ _ _) rfl ⟨rfl, p2, o, true, hp2, hm, HM3.out, hK3, (by intro hc; cases hc), fun hn => absurd HN.out hn⟩
    · clear HI
      have HNn : Hid (n = (if bd = true then 2 else 3 * (8 * s.size + 1 - p) + 2)) := hn
      clear hn
      have HI : Hid (bd = false → ∃ f, 8 * s.size + 1 - p ≤ f ∧ (if o.length = most then none else packG near far s most f p (o ++ [UInt8.ofNat x])) = R) := hI
      clear hI
      refine ⟨_, rfl, ?_⟩
      have hw8 : IntKind.u8.wrap (x : Int) = ((UInt8.ofNat x).toNat : Int) := by
        have e1 : (UInt8.ofNat x).toNat = x := by simp; omega
        rw [e1]
        have ey : ((x : Int) % 2 ^ 8) = (x : Int) := by omega
        simp only [IntKind.wrap, IntKind.bits, IntKind.signed, ey]
        simp
      go_wp2_with fail
      refine (put_walk (UInt8.ofNat x) hM hm hm2 hDr).mono ?_
      rintro e w2 ⟨rfl, k2, HPut⟩
      have hK2 := hK.trans k2
      obtain ⟨o2, bd2, HM2, HP2⟩ : ∃ o2 bd2, Hid (MW mb base s p o2 most bd2 w2) ∧ Hid (o2.length ≤ most ∧ (bd2 = true → R = none) ∧ (bd2 = false → bd = false ∧ ∃ f, 8 * s.size + 1 - p ≤ f ∧ packG near far s most f p o2 = R)) := by
        by_cases hlm : o.length = most
        · refine ⟨o, true, HPut.out.1 hlm, hm, fun _ => ?_, (by intro hc; cases hc)⟩
          cases bd with
          | true => exact HBad.out rfl
          | false =>
            obtain ⟨f1, _, hf2⟩ := HI.out rfl
            rw [if_pos hlm] at hf2
            exact hf2.symm
        · refine ⟨o ++ [UInt8.ofNat x], bd, HPut.out.2 hlm, by simp; omega, HBad.out, fun hb => ⟨hb, ?_⟩⟩
          obtain ⟨f1, hf1, hf2⟩ := HI.out hb
          rw [if_neg hlm] at hf2
          exact ⟨f1, hf1, hf2⟩
      clear hM hK k2 HPut hDr hC1 hC2
      go_wp2
      go_step3
      try simp only [Exit.jump]
      exact ⟨_, (by rw [HNn.out]; cases bd2 with
        | true => cases bd <;> simp
        | false => rw [(HP2.out.2.2 rfl).1]; simp : (if bd2 = true then 1 else 3 * (8 * s.size + 1 - p) + 1) < n), p, o2, bd2, _, mkF rfl, HM2.out, hK2, hp, HP2.out.1, ⟨HP2.out.2.1, .inl ⟨rfl, rfl, fun hb => (HP2.out.2.2 hb).2⟩⟩⟩
    · clear HI
      have HNn : Hid (n = (if bd = true then 2 else 3 * (8 * s.size + 1 - p) + 2)) := hn
      clear hn
      have HI : Hid (bd = false → ∃ f, 8 * s.size + 1 - p ≤ f ∧ (match copyP far s most x p o with | none => none | some (q, o') => packG near far s most f q o') = R) := hI
      clear hI
      refine ⟨_, rfl, ?_⟩
      obtain ⟨i, HIx⟩ : ∃ i, Hid (x - 257 = i) := ⟨_, rfl⟩
      have hi29 : i < 29 := by have := HIx.out; omega
      have hxi : (x : Int) - 257 = (i : Int) := by have := HIx.out; omega
      have hi29' : (i : Int) < 29 := by omega
      obtain ⟨Lb, HLb⟩ : ∃ y, Hid (lenBase[i]? = some y ∧ lenBase.getD i 0 = y) := tab_get (n := 29) rfl i hi29
      obtain ⟨Lt, HLt⟩ : ∃ y, Hid (lenBits[i]? = some y ∧ lenBits.getD i 0 = y) := tab_get (n := 29) rfl i hi29
      have hLb := lenBase_le HLb.out.1
      have hLt : Lt ≤ 5 := by rw [← HLt.out.2]; exact lenBits_le i
      have hTr := hT.kept hK hg hlb
      have cLb : wr.cell? ⟨20, i, none⟩ = some (.int .i64 (Lb : Int)) := hTr.lbase i Lb HLb.out.1
      have cLt : wr.cell? ⟨21, i, none⟩ = some (.int .i64 (Lt : Int)) := hTr.lbits i Lt HLt.out.1
      have hMd : MA mb base s (p / 8) (p % 8) o most bd wr.drew := MA.drew hM 1
      have hKd : Kept mb base w wr.drew := hK.trans (Kept.drew 1)
      have hDd : DefW wr.drew := hD.kept hKd hg hlb
      have hC2d : CodeK mb wr.drew cb 17 far := hC2.kept (base := base) (Kept.drew 1)
      clear hM hK hDr hC1 hC2 hTr
      go_wp2_with fail
      go_region_held3 (fun w' => w'.cell? ⟨20, i, none⟩ = some (.int .i64 (Lb : Int)) ∧ w'.cell? ⟨21, i, none⟩ = some (.int .i64 (Lt : Int)))
        (first | go_keep | (go_split_ands; refine ⟨?_, ?_⟩ <;> (rw [k3.tab hg hlb _ _ (by decide)]; assumption)))
        ((go_at_call 28; refine (take_any Lt hMd hs hp (by omega) hDd hg).mono ?_; rintro e w3 ⟨v, p3, bd3, rfl, hv, hp3, hM3, k3, f3, g3⟩))
      have HI1 : Hid (bd = false → ∃ f, 8 * s.size + 1 - p ≤ f ∧ (copyP far s most x p o = none → R = none) ∧ (∀ q o', copyP far s most x p o = some (q, o') → packG near far s most f q o' = R)) := fun hb => by
        obtain ⟨f1, hf1, hf2⟩ := HI.out hb
        exact ⟨f1, hf1, fun hc => (by rw [hc] at hf2; exact hf2.symm), fun q o' hc => (by rw [hc] at hf2; exact hf2)⟩
      have hv32 : v < 32 := Nat.lt_of_lt_of_le hv (Nat.pow_le_pow_right (by decide) hLt : 2 ^ Lt ≤ 2 ^ 5)
      obtain ⟨N, HN⟩ : ∃ N, Hid (Lb + v = N) := ⟨_, rfl⟩
      have hNN : IntKind.i64.wrap ((Lb : Int) + (v : Int)) = (N : Int) := by
        rw [show (Lb : Int) + (v : Int) = ((Lb + v : Nat) : Int) by omega, HN.out]
        exact wrapNat _ (by have := HN.out; omega)
      rw [hNN]
      have hN300 : N ≤ 300 := by have := HN.out; omega
      have hK3 := hKd.trans k3
      have hC3 := hC2d.kept k3
      have hD3 := hD.kept hK3 hg hlb
      have HE3 : Hid ((bd3 = true → bd = true ∨ copyP far s most x p o = none) ∧ (bd3 = false → bd = false ∧ takeP s p (lenBits.getD (x - 257) 0) = some (v, p3))) := by
        have eL : lenBits.getD (x - 257) 0 = Lt := by rw [HIx.out]; exact HLt.out.2
        refine ⟨fun hb => ?_, fun hb => ?_⟩
        · cases bd with
          | true => exact .inl rfl
          | false =>
            refine .inr (copyP_n1 ?_)
            rw [eL]
            exact takeP_no (fun hq => by rw [g3 rfl hq] at hb; cases hb)
        · obtain ⟨i1, i2, i3, i4⟩ := f3 hb
          exact ⟨i1, by rw [eL, takeP_yes i2, i3, i4]⟩
      clear hMd hDd hC2d hKd k3 f3 g3 hNN hv cLb cLt HI
      go_wp2_with fail
      refine (symbol_walk hM3 hs hp3 hD3 hg hC3 hl2).mono ?_
      rintro e w4 ⟨k, p4, bd4, rfl, hk, hp4, hM4, k4, HS⟩
      have hK4 := hK3.trans k4
      have hD4 := hD.kept hK4 hg hlb
      have HE4 : Hid ((bd4 = true → bd = true ∨ copyP far s most x p o = none) ∧ (bd4 = false → bd = false ∧ takeP s p (lenBits.getD (x - 257) 0) = some (v, p3) ∧ symP far s p3 = some (k, p4))) := by
        refine ⟨fun hb => ?_, fun hb => ?_⟩
        · cases bd3 with
          | true => exact HE3.out.1 rfl
          | false =>
            refine .inr (copyP_n2 (HE3.out.2 rfl).2 ?_)
            exact Classical.byContradiction fun hq => by rw [HS.out.2 rfl hq] at hb; cases hb
        · obtain ⟨i1, i2⟩ := HS.out.1 hb
          exact ⟨(HE3.out.2 i1).1, (HE3.out.2 i1).2, i2⟩
      clear hM3 hK3 hC3 hD3 k4 HS hk
      by_cases hk29 : 29 < k
      · have hk29' : (29 : Int) < (k : Int) := by omega
        obtain ⟨xe, hxe⟩ := hD4.code
        have HN0 : Hid (R = none) := by
          have h1 : bd = true ∨ copyP far s most x p o = none := by
            cases bd4 with
            | true => exact HE4.out.1 rfl
            | false => exact .inr (copyP_n3 (HE4.out.2 rfl).2.1 (HE4.out.2 rfl).2.2 hk29)
          cases bd with
          | true => exact HBad.out rfl
          | false =>
            obtain ⟨f1, _, hf2, _⟩ := HI1.out rfl
            rcases h1 with h1 | h1
            · cases h1
            · exact hf2 h1
        go_wp2_with fail
        refine (fail_walk xe hM4).mono ?_
        rintro e w5 ⟨rfl, hM5, k5⟩
        have HM5 : Hid (MW mb base s p4 o most true w5) := hM5
        have hK5 := hK4.trans k5
        clear hM5 k5 hxe hK4 hM4 hD4
        go_wp2
        simp only [jumps]
        exact bodyPost_ret (results_none rfl _ _ _) rfl ⟨rfl, p4, o, true, hp4, hm, HM5.out, hK5, (by intro hc; cases hc), fun hn => absurd HN0.out hn⟩
      · have hk29' : ¬ (29 : Int) < (k : Int) := by omega
        have hk30 : k < 30 := by omega
        have hk30' : (k : Int) < 30 := by omega
        obtain ⟨Db, HDb⟩ : ∃ y, Hid (disBase[k]? = some y ∧ disBase.getD k 0 = y) := tab_get (n := 30) rfl k hk30
        obtain ⟨Dt, HDt⟩ : ∃ y, Hid (disBits[k]? = some y ∧ disBits.getD k 0 = y) := tab_get (n := 30) rfl k hk30
        have hDb := disBase_le HDb.out.1
        have hDt : Dt ≤ 13 := by rw [← HDt.out.2]; exact disBits_le k
        have hTr := hT.kept hK4 hg hlb
        have cDb : w4.cell? ⟨22, k, none⟩ = some (.int .i64 (Db : Int)) := hTr.dbase k Db HDb.out.1
        have cDt : w4.cell? ⟨23, k, none⟩ = some (.int .i64 (Dt : Int)) := hTr.dbits k Dt HDt.out.1
        have hMd : MA mb base s (p4 / 8) (p4 % 8) o most bd4 w4.drew := MA.drew hM4 1
        have hKd : Kept mb base w w4.drew := hK4.trans (Kept.drew 1)
        have hDd : DefW w4.drew := hD.kept hKd hg hlb
        clear hM4 hK4 hD4 hTr
        go_wp2_with fail
        go_region_held3 (fun w' => w'.cell? ⟨22, k, none⟩ = some (.int .i64 (Db : Int)) ∧ w'.cell? ⟨23, k, none⟩ = some (.int .i64 (Dt : Int)))
          (first | go_keep | (go_split_ands; refine ⟨?_, ?_⟩ <;> (rw [k5.tab hg hlb _ _ (by decide)]; assumption)))
          ((go_at_call 28; refine (take_any Dt hMd hs hp4 (by omega) hDd hg).mono ?_; rintro e w5 ⟨y, p5, bd5, rfl, hy, hp5, hM5, k5, f5, g5⟩))
        have hy8 : y < 8192 := Nat.lt_of_lt_of_le hy (Nat.pow_le_pow_right (by decide) hDt : 2 ^ Dt ≤ 2 ^ 13)
        obtain ⟨D, HDD⟩ : ∃ D, Hid (Db + y = D) := ⟨_, rfl⟩
        have hNN : IntKind.i64.wrap ((Db : Int) + (y : Int)) = (D : Int) := by
          rw [show (Db : Int) + (y : Int) = ((Db + y : Nat) : Int) by omega, HDD.out]
          exact wrapNat _ (by have := HDD.out; omega)
        rw [hNN]
        have hD1 : 1 ≤ D := by have := HDD.out; omega
        have hD2 : D ≤ 100000 := by have := HDD.out; omega
        have hK5 := hKd.trans k5
        have hD5 := hD.kept hK5 hg hlb
        have HE5 : Hid ((bd5 = true → bd = true ∨ copyP far s most x p o = none) ∧ (bd5 = false → bd = false ∧ copyP far s most x p o = if o.length < D then none else (repP most D N o).map fun o' => (p5, o'))) := by
          refine ⟨fun hb => ?_, fun hb => ?_⟩
          · cases bd4 with
            | true => exact HE4.out.1 rfl
            | false =>
              obtain ⟨_, q1, q2⟩ := HE4.out.2 rfl
              refine .inr (copyP_n4 q1 q2 hk29 ?_)
              rw [HDt.out.2]
              exact takeP_no (fun hq => by rw [g5 rfl hq] at hb; cases hb)
          · obtain ⟨i1, i2, i3, i4⟩ := f5 hb
            obtain ⟨q0, q1, q2⟩ := HE4.out.2 i1
            have h4 : takeP s p4 (disBits.getD k 0) = some (y, p5) := by rw [HDt.out.2, takeP_yes i2, i3, i4]
            rw [copyP_eq q1 q2 hk29 h4, HDb.out.2, HDD.out, HIx.out, HLb.out.2, HN.out]
            exact ⟨q0, rfl⟩
        clear hMd hDd hKd k5 f5 g5 hNN hy cDb cDt
        go_wp2_with fail
        refine (repeat_walk N D hM5 hm hm2 hD5 hg (by omega) hD1 hD2).mono ?_
        rintro e w6 ⟨rfl, o6, bd6, hm6, hM6, k6, f6, g6⟩
        have hK6 := hK5.trans k6
        have HM6 : Hid (MW mb base s p5 o6 most bd6 w6) := hM6
        have HE6 : Hid ((bd6 = true → R = none) ∧ (bd6 = false → bd = false ∧ p < p5 ∧ ∃ f, 8 * s.size + 1 - p5 ≤ f ∧ packG near far s most f p5 o6 = R)) := by
          refine ⟨fun hb => ?_, fun hb => ?_⟩
          · have h1 : bd = true ∨ copyP far s most x p o = none := by
              cases bd5 with
              | true => exact HE5.out.1 rfl
              | false =>
                rw [(HE5.out.2 rfl).2]
                by_cases hlt : o.length < D
                · rw [if_pos hlt]; exact .inr rfl
                · rw [if_neg hlt]
                  cases hr : repP most D N o with
                  | none => exact .inr rfl
                  | some r => rw [g6 rfl (by omega) (by rw [hr]; simp)] at hb; cases hb
            cases bd with
            | true => exact HBad.out rfl
            | false =>
              obtain ⟨f1, _, hf2, _⟩ := HI1.out rfl
              rcases h1 with h1 | h1
              · cases h1
              · exact hf2 h1
          · obtain ⟨i1, i2, i3⟩ := f6 hb
            obtain ⟨q0, q1⟩ := HE5.out.2 i1
            rw [if_neg (by omega), i3] at q1
            obtain ⟨f1, hf1, _, hf2⟩ := HI1.out q0
            have hlt := (copyP_lt q1).1
            exact ⟨q0, hlt, f1, by omega, hf2 _ _ q1⟩
        clear hM5 hK5 hD5 k6 hM6 f6 g6
        go_wp2
        go_step3
        try simp only [Exit.jump]
        exact ⟨_, (by rw [HNn.out]; cases bd6 with
          | true => cases bd <;> simp
          | false => obtain ⟨e1, e2, _⟩ := HE6.out.2 rfl; rw [e1]; simp; omega : (if bd6 = true then 1 else 3 * (8 * s.size + 1 - p5) + 1) < n), p5, o6, bd6, _, mkF rfl, HM6.out, hK6, hp5, hm6, ⟨HE6.out.1, .inl ⟨rfl, rfl, fun hb => (HE6.out.2 hb).2.2⟩⟩⟩
  · intro all
    go_wp2_with fail
    go_step3
    rename_i hKK
    exact hKK _ _ (fall2 (all (3 * (8 * s.size + 1 - pos) + 1) 0 _ _ ⟨pos, out, false, _, mkF rfl, h, Kept.refl _ _ _, hp, hm, ⟨(by intro hc; cases hc), .inl ⟨rfl, rfl, fun hb => ⟨8 * s.size + 1 - pos, Nat.le_refl _, HR0.out⟩⟩⟩⟩) rfl fun k l' a' w' _ hJ => ⟨k, hJ⟩)
end
end Go.Proofs.YtjilhneefbakhaaDoor.Inf
