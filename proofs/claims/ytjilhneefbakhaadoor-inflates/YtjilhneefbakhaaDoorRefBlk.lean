/- The document's block. -/
import Derived.Test.YtjilhneefbakhaaDoorRefFix
namespace Go.Proofs.YtjilhneefbakhaaDoor.Inf
open Go.RowKit Go.Proofs.YtjilhneefbakhaaDoor.Sha

theorem mem_mkC {n : Nat} : ∀ {f : Nat} {r : List Nat} {c : Nat × Nat × Nat}, c ∈ mkC n f r → c.1 = n ∧ r ≠ []
  | f, [], c, h => by cases h
  | f, x :: r, c, h => by
    rcases List.mem_cons.1 h with h | h
    · subst h; exact ⟨rfl, by simp⟩
    · exact ⟨(mem_mkC h).1, by simp⟩
theorem mem_codesN {lens : List Nat} : ∀ {N : Nat} {c : Nat × Nat × Nat}, c ∈ codesN lens N → 1 ≤ c.1 ∧ c.1 ≤ N ∧ symsOf lens c.1 ≠ []
  | 0, c, h => by cases h
  | N + 1, c, h => by
    rw [codesN] at h
    rcases List.mem_append.1 h with h | h
    · obtain ⟨h1, h2, h3⟩ := mem_codesN h
      exact ⟨h1, by omega, h3⟩
    · obtain ⟨h1, h2⟩ := mem_mkC h
      rw [h1]; exact ⟨by omega, Nat.le_refl _, h2⟩
theorem codesN_pre (lens : List Nat) (n : Nat) : ∀ N, n ≤ N → ∃ X, codesN lens N = codesN lens n ++ X
  | 0, h => by obtain rfl : n = 0 := by omega
               exact ⟨[], by simp⟩
  | N + 1, h => by
    by_cases he : n = N + 1
    · subst he; exact ⟨[], by simp⟩
    · obtain ⟨X, hX⟩ := codesN_pre lens n N (by omega)
      exact ⟨X ++ mkC (N + 1) (2 * nx lens N) (symsOf lens (N + 1)), by rw [codesN, hX, List.append_assoc]⟩
/-- Of a lone code: it has one bit just when one code has. -/
theorem first_one (lens : List Nat) (h : off lens 15 = 1) {ca cb cc : Nat} (hc : (codesN lens 15)[0]? = some (ca, cb, cc)) : ca = 1 ↔ cnt lens 1 = 1 := by
  have hle := off_mono lens 1 15 (by omega)
  have h1 : off lens 1 = cnt lens 1 := by show 0 + cnt lens 1 = _; omega
  constructor
  · intro hca
    obtain ⟨_, _, h3⟩ := mem_codesN (List.mem_of_getElem? hc)
    have h3 : symsOf lens ca ≠ [] := h3
    rw [hca] at h3
    have : 0 < cnt lens 1 := by
      unfold cnt
      cases hs : symsOf lens 1 with
      | nil => exact absurd hs h3
      | cons a t => simp
    omega
  · intro hcn
    obtain ⟨X, hX⟩ := codesN_pre lens 1 15 (by omega)
    rw [hX, List.getElem?_append_left (by rw [codesN_len, h1, hcn]; decide)] at hc
    have hm := List.mem_of_getElem? hc
    have := (mem_codesN hm).1
    have h2 := (mem_codesN hm).2.1
    simp only at this h2
    omega
theorem LenSl.of_own {tb base : Nat} {s : ByteArray} {pos : Nat} {out : List UInt8} {most : Nat} {bad : Bool} {w w2 : World} {v : Value} {l : List Nat} (h : TA tb base s pos out most bad w) (hb : Below w.heap.size w w2) (ho : OwnL nv w2 w.heap.size v l) (hl : 0 < l.length) : LenSl tb w2 v l := by
  rcases ho with ⟨_, h2⟩ | ⟨g, cap, hv, hg, hgl, _, hc, _⟩
  · rw [List.map_eq_nil_iff.1 h2] at hl; cases hl
  · refine ⟨g, 0, cap, by rw [hv, List.length_map], fun j x hj => ?_, h.fresh hb hg hgl⟩
    rw [Nat.zero_add]
    exact hc j (nv x) (by rw [List.getElem?_map, hj]; rfl)
theorem full_fixN : full fixN := by unfold full; decide +kernel
theorem full_fixD : full fixD := by unfold full; decide +kernel
section
variable {tb base : Nat} {s : ByteArray} {pos : Nat} {out : List UInt8} {most : Nat} {w : World}
set_option maxRecDepth 100000 in
set_option maxHeartbeats 4000000 in
theorem blkR_walk (FN FD : List Nat) (HFN : Hid (FN = fixN)) (HFD : Hid (FD = fixD)) (kind : Nat) (hkd : kind = 1 ∨ kind = 2) (h : TA tb base s pos out most false w) (hs : s.size ≤ 140737488355328) (hp : pos ≤ 8 * s.size) (hm : out.length ≤ most) (hm2 : most ≤ 8000) :
    Calls Tryd.prog 15 #[.pointer (some ⟨tb, 0, none⟩), .int .i64 (kind : Int)] w fun e w' => CopR tb base s most (blockP s most kind pos out) w e w' := by
  have hlb : tb < base := h.lt
  have hbl : base ≤ w.heap.size := h.bl
  obtain ⟨R, HR⟩ : ∃ R, Hid (blockP s most kind pos out = R) := ⟨_, rfl⟩
  rw [HR.out]
  go_enter Tryd.func15, Tryd.ntmps15
  go_wp2_with fail
  refine (fixR_walk FN FD HFN HFD).mono ?_
  rintro e w1 ⟨va, vb, rfl, hB1, hOa, hOb⟩
  have HLN : Hid (0 < FN.length ∧ FN.length ≤ 1000 ∧ full FN) := by rw [HFN.out]; exact ⟨by rw [fixN_len]; decide, by rw [fixN_len]; decide, full_fixN⟩
  have HLD : Hid (0 < FD.length ∧ FD.length ≤ 1000 ∧ full FD) := by rw [HFD.out]; exact ⟨by rw [fixD_len]; decide, by rw [fixD_len]; decide, full_fixD⟩
  have hS1 := LenSl.of_own h hB1 hOa HLN.out.1
  have hS2 := LenSl.of_own h hB1 hOb HLD.out.1
  have hM1 := h.grow hB1
  have hK1 : Kept tb base w w1 := (Kept.refl _ _ _).below hB1 hlb hbl
  clear h hOa hOb
  by_cases hk2 : kind = 2
  · have ek : ((kind : Int) == 2) = true := by simp; omega
    clear hS1 hS2
    have HK2 : Hid (blockP s most 2 pos out = R) := by rw [← HR.out, hk2]; rfl
    clear hk2 hkd
    go_wp2_with fail
    refine (ownR_walk hM1 hs hp).mono ?_
    rintro e w3 ⟨r, v1, v2, pp, bd3, rfl, hpp, hM, k3, q1, q2⟩
    have hK := hK1.trans k3
    cases r with
    | false =>
      have HN0 : Hid (R = none) := by rw [← HK2.out, blockP_2, ownP_of, q2 rfl]; rfl
      clear q1 q2 hM1
      go_wp2
      exact bodyPost_ret (results_tmp rfl _ _ _) rfl ⟨false, pp, out, bd3, rfl, hpp, hm, hM, hK, (by intro hc; cases hc), fun _ => HN0.out⟩
    | true =>
      obtain ⟨e3, near, far, hQ, hS1, hS2, hz1, hz2, hl1, hl2⟩ := q1 rfl
      subst e3
      have HBk : Hid (R = if full near ∧ (full far ∨ loneP far) then packP near far s most pp out else none) := by
        rw [← HK2.out, blockP_2, ownP_of, hQ]
        dsimp only
        by_cases hf : full near ∧ (full far ∨ loneP far)
        · rw [if_pos hf, if_pos hf]; rfl
        · rw [if_neg hf, if_neg hf]; rfl
      clear q1 q2 hQ hM1 hK1 k3
      obtain ⟨g1, o1, cap1, rfl, hA1, hag1⟩ := hS1
      obtain ⟨g2, o2, cap2, rfl, hA2, hag2⟩ := hS2
      go_wp2_with fail
      refine (coded_walk hA1 hz1 hl1).mono ?_
      rintro e w4 ⟨vN, rfl, hB4, hO4⟩
      have hC4 := CodL.of_own hM hB4 hO4
      have hM4 := hM.grow hB4
      have hK4 : Kept tb base w w4 := hK.below (hB4.mono hK.size) hlb hbl
      have hA2' : LensAt w4 g2 o2 far := hA2.kept (hB4.block g2 hag2.1)
      obtain ⟨S1, HS1⟩ : ∃ S1, Hid (sumN near 15 = S1) := ⟨_, rfl⟩
      rw [HS1.out]
      clear hM hK hA1 hag1 hO4 hB4 hA2
      go_wp2_with fail
      refine (coded_walk hA2' hz2 hl2).mono ?_
      rintro e w5 ⟨vF, rfl, hB5, hO5⟩
      have hC6 := CodL.of_own hM4 hB5 hO5
      have hC5 := hC4.step hB5 (Nat.lt_of_lt_of_le hM4.lt hM4.bl)
      have hM5 := hM4.grow hB5
      have hK5 : Kept tb base w w5 := hK4.below (hB5.mono hK4.size) hlb hbl
      obtain ⟨S2, HS2⟩ : ∃ S2, Hid (sumN far 15 = S2) := ⟨_, rfl⟩
      rw [HS2.out]
      have hnS1 : S1 ≤ 15 * (1000 * 32768) := by rw [← HS1.out]; have := sumN_le near 15; have h2 : 15 * (near.length * 32768) ≤ 15 * (1000 * 32768) := Nat.mul_le_mul_left _ (Nat.mul_le_mul_right _ hl1); omega
      have hnS2 : S2 ≤ 15 * (1000 * 32768) := by rw [← HS2.out]; have := sumN_le far 15; have h2 : 15 * (far.length * 32768) ≤ 15 * (1000 * 32768) := Nat.mul_le_mul_left _ (Nat.mul_le_mul_right _ hl2); omega
      clear hM4 hC4 hK4 hB5 hO5 hA2' hag2
      obtain ⟨ao, capF, hvF, HCF⟩ := id hC6
      have hlo : (codesN far 15).length = off far 15 := codesN_len far 15
      have hoff := off_le far 15
      obtain ⟨n, Hn⟩ : ∃ n, Hid ((codesN far 15).length = n) := ⟨_, rfl⟩
      have hn1000 : n ≤ 1000 := by rw [← Hn.out, hlo]; omega
      have Hoff : Hid (off far 15 = n) := by rw [← Hn.out]; exact hlo.symm
      rw [Hn.out] at hvF
      have HvF : Hid (vF = .slice ao n capF) := hvF
      have HCF1 : Hid (∀ i c, (codesN far 15)[i]? = some c → ∃ g, ao = some ⟨g, 0, none⟩ ∧ Apart tb w5 g ∧ w5.cell? ⟨g, 3 * i, none⟩ = some (nv c.1) ∧ w5.cell? ⟨g, 3 * i + 1, none⟩ = some (nv c.2.1) ∧ w5.cell? ⟨g, 3 * i + 2, none⟩ = some (nv c.2.2)) := HCF
      clear HCF hlo hoff
      by_cases hf1 : S1 = 32768
      · have e1 : ((S1 : Int) != 32768) = false := by simp; omega
        have hf1' : full near := by unfold full; rw [HS1.out]; exact hf1
        clear hf1
        have hf1 := hf1'
        clear hf1'
        subst hvF
        clear HvF
        by_cases h0 : n = 0
        · have e0 : ((n : Int) == 0) = true := by simp; omega
          have hlone : loneP far := .inl (by rw [Hoff.out]; exact h0)
          clear h0
          by_cases hf2 : S2 = 32768
          · have e2 : ((S2 : Int) != 32768) = false := by simp; omega
            have hf2' : full far := by unfold full; rw [HS2.out]; exact hf2
            clear hf2
            go_wp2_with fail
            refine (inR_walk vN _ hM5 hs hpp hm hm2 hC5 hC6 hl1 hl2).mono ?_
            rintro e w7 ⟨r, p7, o7, bd7, rfl, hp7, hm7, hM7, k7, q1, q2⟩
            have hK7 := hK5.trans k7
            have HPk : Hid (R = packP near far s most pp out) := by rw [HBk.out, if_pos ⟨hf1, .inl hf2'⟩]; rfl
            clear hM5 hC5 hC6 hK5 k7
            go_wp2
            exact bodyPost_ret (results_tmp rfl _ _ _) rfl ⟨r, p7, o7, bd7, rfl, hp7, hm7, hM7, hK7, fun hr => ⟨(q1 hr).1, by rw [HPk.out]; exact (q1 hr).2⟩, fun hr => by rw [HPk.out]; exact q2 hr⟩
          · have e2 : ((S2 : Int) != 32768) = true := by simp; omega
            have hf2' : ¬ full far := by unfold full; rw [HS2.out]; exact hf2
            clear hf2
            go_wp2_with fail
            refine (inR_walk vN _ hM5 hs hpp hm hm2 hC5 hC6 hl1 hl2).mono ?_
            rintro e w7 ⟨r, p7, o7, bd7, rfl, hp7, hm7, hM7, k7, q1, q2⟩
            have hK7 := hK5.trans k7
            have HPk : Hid (R = packP near far s most pp out) := by rw [HBk.out, if_pos ⟨hf1, .inr hlone⟩]; rfl
            clear hM5 hC5 hC6 hK5 k7
            go_wp2
            exact bodyPost_ret (results_tmp rfl _ _ _) rfl ⟨r, p7, o7, bd7, rfl, hp7, hm7, hM7, hK7, fun hr => ⟨(q1 hr).1, by rw [HPk.out]; exact (q1 hr).2⟩, fun hr => by rw [HPk.out]; exact q2 hr⟩
        · have e0 : ((n : Int) == 0) = false := by rw [beq_eq_false_iff_ne]; omega
          by_cases h1 : n = 1
          · have e10 : ((n : Int) == 1) = true := by simp; omega
            obtain ⟨ca, cb, cc, Hc⟩ : ∃ ca cb cc, Hid ((codesN far 15)[0]? = some (ca, cb, cc)) := by
              obtain ⟨c, hc⟩ : ∃ c, (codesN far 15)[0]? = some c := ⟨(codesN far 15)[0]'(by have := Hn.out; omega), List.getElem?_eq_getElem _⟩
              exact ⟨c.1, c.2.1, c.2.2, hc⟩
            obtain ⟨g, hao, _, q0, _, _⟩ := HCF1.out 0 _ Hc.out
            have c0 : w5.cell? ⟨g, 0, none⟩ = some (.int .i64 (ca : Int)) := q0
            subst hao
            have h1n : (0 : Int) < (n : Int) := by omega
            by_cases hc1 : ca = 1
            · have e11 : ((ca : Int) == 1) = true := by simp; omega
              have hlone : loneP far := .inr ⟨by rw [Hoff.out]; exact h1, (first_one far (by rw [Hoff.out]; exact h1) Hc.out).1 hc1⟩
              clear hc1 h1 q0
              by_cases hf2 : S2 = 32768
              · have e2 : ((S2 : Int) != 32768) = false := by simp; omega
                have hf2' : full far := by unfold full; rw [HS2.out]; exact hf2
                clear hf2
                go_wp2_with fail
                refine (inR_walk vN _ hM5 hs hpp hm hm2 hC5 hC6 hl1 hl2).mono ?_
                rintro e w7 ⟨r, p7, o7, bd7, rfl, hp7, hm7, hM7, k7, q1, q2⟩
                have hK7 := hK5.trans k7
                have HPk : Hid (R = packP near far s most pp out) := by rw [HBk.out, if_pos ⟨hf1, .inl hf2'⟩]; rfl
                clear hM5 hC5 hC6 hK5 k7
                go_wp2
                exact bodyPost_ret (results_tmp rfl _ _ _) rfl ⟨r, p7, o7, bd7, rfl, hp7, hm7, hM7, hK7, fun hr => ⟨(q1 hr).1, by rw [HPk.out]; exact (q1 hr).2⟩, fun hr => by rw [HPk.out]; exact q2 hr⟩
              · have e2 : ((S2 : Int) != 32768) = true := by simp; omega
                have hf2' : ¬ full far := by unfold full; rw [HS2.out]; exact hf2
                clear hf2
                go_wp2_with fail
                refine (inR_walk vN _ hM5 hs hpp hm hm2 hC5 hC6 hl1 hl2).mono ?_
                rintro e w7 ⟨r, p7, o7, bd7, rfl, hp7, hm7, hM7, k7, q1, q2⟩
                have hK7 := hK5.trans k7
                have HPk : Hid (R = packP near far s most pp out) := by rw [HBk.out, if_pos ⟨hf1, .inr hlone⟩]; rfl
                clear hM5 hC5 hC6 hK5 k7
                go_wp2
                exact bodyPost_ret (results_tmp rfl _ _ _) rfl ⟨r, p7, o7, bd7, rfl, hp7, hm7, hM7, hK7, fun hr => ⟨(q1 hr).1, by rw [HPk.out]; exact (q1 hr).2⟩, fun hr => by rw [HPk.out]; exact q2 hr⟩
            · have e11 : ((ca : Int) == 1) = false := by rw [beq_eq_false_iff_ne]; omega
              have hlone : ¬ loneP far := by
                rintro (h | ⟨_, h⟩)
                · rw [Hoff.out] at h; omega
                · exact hc1 ((first_one far (by rw [Hoff.out]; exact h1) Hc.out).2 h)
              clear hc1 h1 q0
              by_cases hf2 : S2 = 32768
              · have e2 : ((S2 : Int) != 32768) = false := by simp; omega
                have hf2' : full far := by unfold full; rw [HS2.out]; exact hf2
                clear hf2
                go_wp2_with fail
                refine (inR_walk vN _ hM5 hs hpp hm hm2 hC5 hC6 hl1 hl2).mono ?_
                rintro e w7 ⟨r, p7, o7, bd7, rfl, hp7, hm7, hM7, k7, q1, q2⟩
                have hK7 := hK5.trans k7
                have HPk : Hid (R = packP near far s most pp out) := by rw [HBk.out, if_pos ⟨hf1, .inl hf2'⟩]; rfl
                clear hM5 hC5 hC6 hK5 k7
                go_wp2
                exact bodyPost_ret (results_tmp rfl _ _ _) rfl ⟨r, p7, o7, bd7, rfl, hp7, hm7, hM7, hK7, fun hr => ⟨(q1 hr).1, by rw [HPk.out]; exact (q1 hr).2⟩, fun hr => by rw [HPk.out]; exact q2 hr⟩
              · have e2 : ((S2 : Int) != 32768) = true := by simp; omega
                have hf2' : ¬ full far := by unfold full; rw [HS2.out]; exact hf2
                clear hf2
                have HN0 : Hid (R = none) := by rw [HBk.out, if_neg (fun hc => by rcases hc.2 with h | h; exact hf2' h; exact hlone h)]; rfl
                go_wp2
                exact bodyPost_ret (results_tmp rfl _ _ _) rfl ⟨false, pp, out, false, rfl, hpp, hm, hM5, hK5, (by intro hc; cases hc), fun _ => HN0.out⟩
          · have e10 : ((n : Int) == 1) = false := by rw [beq_eq_false_iff_ne]; omega
            have hlone : ¬ loneP far := by
              rintro (h | ⟨h, _⟩)
              · rw [Hoff.out] at h; omega
              · rw [Hoff.out] at h; omega
            clear h1
            by_cases hf2 : S2 = 32768
            · have e2 : ((S2 : Int) != 32768) = false := by simp; omega
              have hf2' : full far := by unfold full; rw [HS2.out]; exact hf2
              clear hf2
              go_wp2_with fail
              refine (inR_walk vN _ hM5 hs hpp hm hm2 hC5 hC6 hl1 hl2).mono ?_
              rintro e w7 ⟨r, p7, o7, bd7, rfl, hp7, hm7, hM7, k7, q1, q2⟩
              have hK7 := hK5.trans k7
              have HPk : Hid (R = packP near far s most pp out) := by rw [HBk.out, if_pos ⟨hf1, .inl hf2'⟩]; rfl
              clear hM5 hC5 hC6 hK5 k7
              go_wp2
              exact bodyPost_ret (results_tmp rfl _ _ _) rfl ⟨r, p7, o7, bd7, rfl, hp7, hm7, hM7, hK7, fun hr => ⟨(q1 hr).1, by rw [HPk.out]; exact (q1 hr).2⟩, fun hr => by rw [HPk.out]; exact q2 hr⟩
            · have e2 : ((S2 : Int) != 32768) = true := by simp; omega
              have hf2' : ¬ full far := by unfold full; rw [HS2.out]; exact hf2
              clear hf2
              have HN0 : Hid (R = none) := by rw [HBk.out, if_neg (fun hc => by rcases hc.2 with h | h; exact hf2' h; exact hlone h)]; rfl
              go_wp2
              exact bodyPost_ret (results_tmp rfl _ _ _) rfl ⟨false, pp, out, false, rfl, hpp, hm, hM5, hK5, (by intro hc; cases hc), fun _ => HN0.out⟩
      · have e1 : ((S1 : Int) != 32768) = true := by simp; omega
        have hf1' : ¬ full near := by unfold full; rw [HS1.out]; exact hf1
        clear hf1
        have HN0 : Hid (R = none) := by rw [HBk.out, if_neg (fun hc => hf1' hc.1)]; rfl
        subst hvF
        clear HvF
        by_cases h0 : n = 0
        · have e0 : ((n : Int) == 0) = true := by simp; omega
          clear h0
          go_wp2
          exact bodyPost_ret (results_tmp rfl _ _ _) rfl ⟨false, pp, out, false, rfl, hpp, hm, hM5, hK5, (by intro hc; cases hc), fun _ => HN0.out⟩
        · have e0 : ((n : Int) == 0) = false := by rw [beq_eq_false_iff_ne]; omega
          by_cases h1 : n = 1
          · have e10 : ((n : Int) == 1) = true := by simp; omega
            obtain ⟨c, hc⟩ : ∃ c, (codesN far 15)[0]? = some c := ⟨(codesN far 15)[0]'(by have := Hn.out; omega), List.getElem?_eq_getElem _⟩
            obtain ⟨g, hao, _, q0, _, _⟩ := HCF1.out 0 _ hc
            obtain ⟨ca, Hca⟩ : ∃ ca, Hid (c.1 = ca) := ⟨_, rfl⟩
            rw [Hca.out] at q0
            have c0 : w5.cell? ⟨g, 0, none⟩ = some (.int .i64 (ca : Int)) := q0
            subst hao
            have h1n : (0 : Int) < (n : Int) := by omega
            clear hc h1 q0
            go_wp2
            exact bodyPost_ret (results_tmp rfl _ _ _) rfl ⟨false, pp, out, false, rfl, hpp, hm, hM5, hK5, (by intro hc; cases hc), fun _ => HN0.out⟩
          · have e10 : ((n : Int) == 1) = false := by rw [beq_eq_false_iff_ne]; omega
            clear h1
            go_wp2
            exact bodyPost_ret (results_tmp rfl _ _ _) rfl ⟨false, pp, out, false, rfl, hpp, hm, hM5, hK5, (by intro hc; cases hc), fun _ => HN0.out⟩
  · have ek : ((kind : Int) == 2) = false := by rw [beq_eq_false_iff_ne]; omega
    obtain ⟨near, Hnear⟩ : ∃ near, Hid (FN = near) := ⟨_, rfl⟩
    obtain ⟨far, Hfar⟩ : ∃ far, Hid (FD = far) := ⟨_, rfl⟩
    obtain ⟨pp, Hpp⟩ : ∃ pp, Hid (pos = pp) := ⟨_, rfl⟩
    have hz1 := HLN.out.1
    have hl1 := HLN.out.2.1
    have hz2 := HLD.out.1
    have hl2 := HLD.out.2.1
    have hM := hM1
    have hK := hK1
    have hpp := hp
    have HBk : Hid (R = if full FN ∧ (full FD ∨ loneP FD) then packP FN FD s most pos out else none) := by
      have h1 : kind = 1 := by omega
      rw [if_pos ⟨HLN.out.2.2, .inl HLD.out.2.2⟩, ← HR.out, h1, blockP_1, HFN.out, HFD.out]; rfl
    rw [Hnear.out] at hz1 hl1 hS1 HBk
    rw [Hfar.out] at hz2 hl2 hS2 HBk
    rw [Hpp.out] at hM hpp HBk
    clear hM1 hK1 hk2 hkd HLN HLD
    obtain ⟨g1, o1, cap1, rfl, hA1, hag1⟩ := hS1
    obtain ⟨g2, o2, cap2, rfl, hA2, hag2⟩ := hS2
    go_wp2_with fail
    refine (coded_walk hA1 hz1 hl1).mono ?_
    rintro e w4 ⟨vN, rfl, hB4, hO4⟩
    have hC4 := CodL.of_own hM hB4 hO4
    have hM4 := hM.grow hB4
    have hK4 : Kept tb base w w4 := hK.below (hB4.mono hK.size) hlb hbl
    have hA2' : LensAt w4 g2 o2 far := hA2.kept (hB4.block g2 hag2.1)
    obtain ⟨S1, HS1⟩ : ∃ S1, Hid (sumN near 15 = S1) := ⟨_, rfl⟩
    rw [HS1.out]
    clear hM hK hA1 hag1 hO4 hB4 hA2
    go_wp2_with fail
    refine (coded_walk hA2' hz2 hl2).mono ?_
    rintro e w5 ⟨vF, rfl, hB5, hO5⟩
    have hC6 := CodL.of_own hM4 hB5 hO5
    have hC5 := hC4.step hB5 (Nat.lt_of_lt_of_le hM4.lt hM4.bl)
    have hM5 := hM4.grow hB5
    have hK5 : Kept tb base w w5 := hK4.below (hB5.mono hK4.size) hlb hbl
    obtain ⟨S2, HS2⟩ : ∃ S2, Hid (sumN far 15 = S2) := ⟨_, rfl⟩
    rw [HS2.out]
    have hnS1 : S1 ≤ 15 * (1000 * 32768) := by rw [← HS1.out]; have := sumN_le near 15; have h2 : 15 * (near.length * 32768) ≤ 15 * (1000 * 32768) := Nat.mul_le_mul_left _ (Nat.mul_le_mul_right _ hl1); omega
    have hnS2 : S2 ≤ 15 * (1000 * 32768) := by rw [← HS2.out]; have := sumN_le far 15; have h2 : 15 * (far.length * 32768) ≤ 15 * (1000 * 32768) := Nat.mul_le_mul_left _ (Nat.mul_le_mul_right _ hl2); omega
    clear hM4 hC4 hK4 hB5 hO5 hA2' hag2
    obtain ⟨ao, capF, hvF, HCF⟩ := id hC6
    have hlo : (codesN far 15).length = off far 15 := codesN_len far 15
    have hoff := off_le far 15
    obtain ⟨n, Hn⟩ : ∃ n, Hid ((codesN far 15).length = n) := ⟨_, rfl⟩
    have hn1000 : n ≤ 1000 := by rw [← Hn.out, hlo]; omega
    have Hoff : Hid (off far 15 = n) := by rw [← Hn.out]; exact hlo.symm
    rw [Hn.out] at hvF
    have HvF : Hid (vF = .slice ao n capF) := hvF
    have HCF1 : Hid (∀ i c, (codesN far 15)[i]? = some c → ∃ g, ao = some ⟨g, 0, none⟩ ∧ Apart tb w5 g ∧ w5.cell? ⟨g, 3 * i, none⟩ = some (nv c.1) ∧ w5.cell? ⟨g, 3 * i + 1, none⟩ = some (nv c.2.1) ∧ w5.cell? ⟨g, 3 * i + 2, none⟩ = some (nv c.2.2)) := HCF
    clear HCF hlo hoff
    by_cases hf1 : S1 = 32768
    · have e1 : ((S1 : Int) != 32768) = false := by simp; omega
      have hf1' : full near := by unfold full; rw [HS1.out]; exact hf1
      clear hf1
      have hf1 := hf1'
      clear hf1'
      subst hvF
      clear HvF
      by_cases h0 : n = 0
      · have e0 : ((n : Int) == 0) = true := by simp; omega
        have hlone : loneP far := .inl (by rw [Hoff.out]; exact h0)
        clear h0
        by_cases hf2 : S2 = 32768
        · have e2 : ((S2 : Int) != 32768) = false := by simp; omega
          have hf2' : full far := by unfold full; rw [HS2.out]; exact hf2
          clear hf2
          go_wp2_with fail
          refine (inR_walk vN _ hM5 hs hpp hm hm2 hC5 hC6 hl1 hl2).mono ?_
          rintro e w7 ⟨r, p7, o7, bd7, rfl, hp7, hm7, hM7, k7, q1, q2⟩
          have hK7 := hK5.trans k7
          have HPk : Hid (R = packP near far s most pp out) := by rw [HBk.out, if_pos ⟨hf1, .inl hf2'⟩]; rfl
          clear hM5 hC5 hC6 hK5 k7
          go_wp2
          exact bodyPost_ret (results_tmp rfl _ _ _) rfl ⟨r, p7, o7, bd7, rfl, hp7, hm7, hM7, hK7, fun hr => ⟨(q1 hr).1, by rw [HPk.out]; exact (q1 hr).2⟩, fun hr => by rw [HPk.out]; exact q2 hr⟩
        · have e2 : ((S2 : Int) != 32768) = true := by simp; omega
          have hf2' : ¬ full far := by unfold full; rw [HS2.out]; exact hf2
          clear hf2
          go_wp2_with fail
          refine (inR_walk vN _ hM5 hs hpp hm hm2 hC5 hC6 hl1 hl2).mono ?_
          rintro e w7 ⟨r, p7, o7, bd7, rfl, hp7, hm7, hM7, k7, q1, q2⟩
          have hK7 := hK5.trans k7
          have HPk : Hid (R = packP near far s most pp out) := by rw [HBk.out, if_pos ⟨hf1, .inr hlone⟩]; rfl
          clear hM5 hC5 hC6 hK5 k7
          go_wp2
          exact bodyPost_ret (results_tmp rfl _ _ _) rfl ⟨r, p7, o7, bd7, rfl, hp7, hm7, hM7, hK7, fun hr => ⟨(q1 hr).1, by rw [HPk.out]; exact (q1 hr).2⟩, fun hr => by rw [HPk.out]; exact q2 hr⟩
      · have e0 : ((n : Int) == 0) = false := by rw [beq_eq_false_iff_ne]; omega
        by_cases h1 : n = 1
        · have e10 : ((n : Int) == 1) = true := by simp; omega
          obtain ⟨ca, cb, cc, Hc⟩ : ∃ ca cb cc, Hid ((codesN far 15)[0]? = some (ca, cb, cc)) := by
            obtain ⟨c, hc⟩ : ∃ c, (codesN far 15)[0]? = some c := ⟨(codesN far 15)[0]'(by have := Hn.out; omega), List.getElem?_eq_getElem _⟩
            exact ⟨c.1, c.2.1, c.2.2, hc⟩
          obtain ⟨g, hao, _, q0, _, _⟩ := HCF1.out 0 _ Hc.out
          have c0 : w5.cell? ⟨g, 0, none⟩ = some (.int .i64 (ca : Int)) := q0
          subst hao
          have h1n : (0 : Int) < (n : Int) := by omega
          by_cases hc1 : ca = 1
          · have e11 : ((ca : Int) == 1) = true := by simp; omega
            have hlone : loneP far := .inr ⟨by rw [Hoff.out]; exact h1, (first_one far (by rw [Hoff.out]; exact h1) Hc.out).1 hc1⟩
            clear hc1 h1 q0
            by_cases hf2 : S2 = 32768
            · have e2 : ((S2 : Int) != 32768) = false := by simp; omega
              have hf2' : full far := by unfold full; rw [HS2.out]; exact hf2
              clear hf2
              go_wp2_with fail
              refine (inR_walk vN _ hM5 hs hpp hm hm2 hC5 hC6 hl1 hl2).mono ?_
              rintro e w7 ⟨r, p7, o7, bd7, rfl, hp7, hm7, hM7, k7, q1, q2⟩
              have hK7 := hK5.trans k7
              have HPk : Hid (R = packP near far s most pp out) := by rw [HBk.out, if_pos ⟨hf1, .inl hf2'⟩]; rfl
              clear hM5 hC5 hC6 hK5 k7
              go_wp2
              exact bodyPost_ret (results_tmp rfl _ _ _) rfl ⟨r, p7, o7, bd7, rfl, hp7, hm7, hM7, hK7, fun hr => ⟨(q1 hr).1, by rw [HPk.out]; exact (q1 hr).2⟩, fun hr => by rw [HPk.out]; exact q2 hr⟩
            · have e2 : ((S2 : Int) != 32768) = true := by simp; omega
              have hf2' : ¬ full far := by unfold full; rw [HS2.out]; exact hf2
              clear hf2
              go_wp2_with fail
              refine (inR_walk vN _ hM5 hs hpp hm hm2 hC5 hC6 hl1 hl2).mono ?_
              rintro e w7 ⟨r, p7, o7, bd7, rfl, hp7, hm7, hM7, k7, q1, q2⟩
              have hK7 := hK5.trans k7
              have HPk : Hid (R = packP near far s most pp out) := by rw [HBk.out, if_pos ⟨hf1, .inr hlone⟩]; rfl
              clear hM5 hC5 hC6 hK5 k7
              go_wp2
              exact bodyPost_ret (results_tmp rfl _ _ _) rfl ⟨r, p7, o7, bd7, rfl, hp7, hm7, hM7, hK7, fun hr => ⟨(q1 hr).1, by rw [HPk.out]; exact (q1 hr).2⟩, fun hr => by rw [HPk.out]; exact q2 hr⟩
          · have e11 : ((ca : Int) == 1) = false := by rw [beq_eq_false_iff_ne]; omega
            have hlone : ¬ loneP far := by
              rintro (h | ⟨_, h⟩)
              · rw [Hoff.out] at h; omega
              · exact hc1 ((first_one far (by rw [Hoff.out]; exact h1) Hc.out).2 h)
            clear hc1 h1 q0
            by_cases hf2 : S2 = 32768
            · have e2 : ((S2 : Int) != 32768) = false := by simp; omega
              have hf2' : full far := by unfold full; rw [HS2.out]; exact hf2
              clear hf2
              go_wp2_with fail
              refine (inR_walk vN _ hM5 hs hpp hm hm2 hC5 hC6 hl1 hl2).mono ?_
              rintro e w7 ⟨r, p7, o7, bd7, rfl, hp7, hm7, hM7, k7, q1, q2⟩
              have hK7 := hK5.trans k7
              have HPk : Hid (R = packP near far s most pp out) := by rw [HBk.out, if_pos ⟨hf1, .inl hf2'⟩]; rfl
              clear hM5 hC5 hC6 hK5 k7
              go_wp2
              exact bodyPost_ret (results_tmp rfl _ _ _) rfl ⟨r, p7, o7, bd7, rfl, hp7, hm7, hM7, hK7, fun hr => ⟨(q1 hr).1, by rw [HPk.out]; exact (q1 hr).2⟩, fun hr => by rw [HPk.out]; exact q2 hr⟩
            · have e2 : ((S2 : Int) != 32768) = true := by simp; omega
              have hf2' : ¬ full far := by unfold full; rw [HS2.out]; exact hf2
              clear hf2
              have HN0 : Hid (R = none) := by rw [HBk.out, if_neg (fun hc => by rcases hc.2 with h | h; exact hf2' h; exact hlone h)]; rfl
              go_wp2
              exact bodyPost_ret (results_tmp rfl _ _ _) rfl ⟨false, pp, out, false, rfl, hpp, hm, hM5, hK5, (by intro hc; cases hc), fun _ => HN0.out⟩
        · have e10 : ((n : Int) == 1) = false := by rw [beq_eq_false_iff_ne]; omega
          have hlone : ¬ loneP far := by
            rintro (h | ⟨h, _⟩)
            · rw [Hoff.out] at h; omega
            · rw [Hoff.out] at h; omega
          clear h1
          by_cases hf2 : S2 = 32768
          · have e2 : ((S2 : Int) != 32768) = false := by simp; omega
            have hf2' : full far := by unfold full; rw [HS2.out]; exact hf2
            clear hf2
            go_wp2_with fail
            refine (inR_walk vN _ hM5 hs hpp hm hm2 hC5 hC6 hl1 hl2).mono ?_
            rintro e w7 ⟨r, p7, o7, bd7, rfl, hp7, hm7, hM7, k7, q1, q2⟩
            have hK7 := hK5.trans k7
            have HPk : Hid (R = packP near far s most pp out) := by rw [HBk.out, if_pos ⟨hf1, .inl hf2'⟩]; rfl
            clear hM5 hC5 hC6 hK5 k7
            go_wp2
            exact bodyPost_ret (results_tmp rfl _ _ _) rfl ⟨r, p7, o7, bd7, rfl, hp7, hm7, hM7, hK7, fun hr => ⟨(q1 hr).1, by rw [HPk.out]; exact (q1 hr).2⟩, fun hr => by rw [HPk.out]; exact q2 hr⟩
          · have e2 : ((S2 : Int) != 32768) = true := by simp; omega
            have hf2' : ¬ full far := by unfold full; rw [HS2.out]; exact hf2
            clear hf2
            have HN0 : Hid (R = none) := by rw [HBk.out, if_neg (fun hc => by rcases hc.2 with h | h; exact hf2' h; exact hlone h)]; rfl
            go_wp2
            exact bodyPost_ret (results_tmp rfl _ _ _) rfl ⟨false, pp, out, false, rfl, hpp, hm, hM5, hK5, (by intro hc; cases hc), fun _ => HN0.out⟩
    · have e1 : ((S1 : Int) != 32768) = true := by simp; omega
      have hf1' : ¬ full near := by unfold full; rw [HS1.out]; exact hf1
      clear hf1
      have HN0 : Hid (R = none) := by rw [HBk.out, if_neg (fun hc => hf1' hc.1)]; rfl
      subst hvF
      clear HvF
      by_cases h0 : n = 0
      · have e0 : ((n : Int) == 0) = true := by simp; omega
        clear h0
        go_wp2
        exact bodyPost_ret (results_tmp rfl _ _ _) rfl ⟨false, pp, out, false, rfl, hpp, hm, hM5, hK5, (by intro hc; cases hc), fun _ => HN0.out⟩
      · have e0 : ((n : Int) == 0) = false := by rw [beq_eq_false_iff_ne]; omega
        by_cases h1 : n = 1
        · have e10 : ((n : Int) == 1) = true := by simp; omega
          obtain ⟨c, hc⟩ : ∃ c, (codesN far 15)[0]? = some c := ⟨(codesN far 15)[0]'(by have := Hn.out; omega), List.getElem?_eq_getElem _⟩
          obtain ⟨g, hao, _, q0, _, _⟩ := HCF1.out 0 _ hc
          obtain ⟨ca, Hca⟩ : ∃ ca, Hid (c.1 = ca) := ⟨_, rfl⟩
          rw [Hca.out] at q0
          have c0 : w5.cell? ⟨g, 0, none⟩ = some (.int .i64 (ca : Int)) := q0
          subst hao
          have h1n : (0 : Int) < (n : Int) := by omega
          clear hc h1 q0
          go_wp2
          exact bodyPost_ret (results_tmp rfl _ _ _) rfl ⟨false, pp, out, false, rfl, hpp, hm, hM5, hK5, (by intro hc; cases hc), fun _ => HN0.out⟩
        · have e10 : ((n : Int) == 1) = false := by rw [beq_eq_false_iff_ne]; omega
          clear h1
          go_wp2
          exact bodyPost_ret (results_tmp rfl _ _ _) rfl ⟨false, pp, out, false, rfl, hpp, hm, hM5, hK5, (by intro hc; cases hc), fun _ => HN0.out⟩
end
end Go.Proofs.YtjilhneefbakhaaDoor.Inf
