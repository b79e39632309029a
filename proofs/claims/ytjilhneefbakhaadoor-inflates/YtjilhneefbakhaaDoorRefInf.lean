/- The document's Inflate, of any text and any number. -/
import Derived.Test.YtjilhneefbakhaaDoorRefBlk
import Derived.Test.YtjilhneefbakhaaDoorInfAll
namespace Go.Proofs.YtjilhneefbakhaaDoor.Inf
open Go.RowKit Go.Proofs.YtjilhneefbakhaaDoor.Sha

theorem byte_zero (x b : Nat) (hx : x < 256) (hb : b < 8) : x / 2 ^ b = 0 ↔ ∀ j, b ≤ j → j < 8 → x / 2 ^ j % 2 = 0 := by
  have key : ∀ x ∈ List.range 256, ∀ b ∈ List.range 8, (x / 2 ^ b = 0) ↔ ((List.range 8).all fun j => decide (j < b) || decide (x / 2 ^ j % 2 = 0)) = true := by decide +kernel
  rw [key x (List.mem_range.2 hx) b (List.mem_range.2 hb), List.all_eq_true]
  constructor
  · intro h j h1 h2
    have := h j (List.mem_range.2 h2)
    simp at this
    omega
  · intro h j hj
    have hj8 := List.mem_range.1 hj
    by_cases hlt : j < b
    · simp [hlt]
    · simp [h j (by omega) hj8]
theorem endP_not (s : ByteArray) (p j : Nat) (h1 : p ≤ j) (h2 : j < (p + 7) / 8 * 8) (h3 : bitAt s j ≠ 0) : ¬ endP s p := by
  rintro ⟨h, _⟩
  have hb : p % 8 ≠ 0 := by omega
  rcases h with h | h
  · exact hb h
  · have hx := (s.data.toList.getD (p / 8) 0).toNat_lt
    have := (byte_zero _ _ hx (Nat.mod_lt _ (by decide) : p % 8 < 8)).1 h (j % 8) (by omega) (Nat.mod_lt _ (by decide))
    apply h3
    unfold bitAt
    rw [show j / 8 = p / 8 by omega]
    exact this
theorem endP_iff (s : ByteArray) (p q : Nat) (hq : q = (p + 7) / 8 * 8) (hz : ∀ j, p ≤ j → j < q → bitAt s j = 0) : endP s p ↔ q = 8 * s.size := by
  constructor
  · rintro ⟨_, h⟩; omega
  · intro h
    refine ⟨?_, by omega⟩
    by_cases hb : p % 8 = 0
    · exact .inl hb
    · right
      have hx := (s.data.toList.getD (p / 8) 0).toNat_lt
      refine (byte_zero _ _ hx (Nat.mod_lt _ (by decide) : p % 8 < 8)).2 fun j h1 h2 => ?_
      have := hz (p / 8 * 8 + j) (by omega) (by omega)
      unfold bitAt at this
      rw [show (p / 8 * 8 + j) / 8 = p / 8 by omega, show (p / 8 * 8 + j) % 8 = j by omega] at this
      exact this
theorem fresh_text (w : World) (s : ByteArray) (most : Nat) (t : TypeId) :
    TA w.heap.size (w.heap.size + 1) s 0 [] most false (w.alloc (.cells #[.string s, .int .i64 0, .bool false, .slice none 0 0, .int .i64 (most : Int)] t)) := by
  refine ⟨?_, ?_, ?_, ⟨_, ?_, Own.nil _ _⟩, ?_, fun j => ?_, by omega, by simp⟩
  all_goals first | (simp [World.cell?_alloc_at]; done) | (simp; done)
theorem below_kept {w wr w2 : World} (h : Below w.heap.size w wr) (k : Kept w.heap.size (w.heap.size + 1) wr w2) : Below w.heap.size w w2 :=
  ⟨k.os.trans h.os, k.tape.trans h.tape, k.output.trans h.output, Nat.le_trans h.size k.size, fun i hi => (k.block i (by omega) (by omega)).trans (h.block i hi)⟩
theorem step_lt (a l : Nat) (hl : l < 2) (p q S : Nat) (hpq : p < q) (hq : q ≤ S) (ha : a = 0) : (1 - l) * (S + 2 - q) < (1 - a) * (S + 2 - p) := by
  subst ha
  have : (1 - l) * (S + 2 - q) ≤ 1 * (S + 2 - q) := Nat.mul_le_mul_right _ (by omega)
  omega
set_option maxRecDepth 100000 in
set_option maxHeartbeats 4000000 in
theorem infR_good (FN FD : List Nat) (HFN : Hid (FN = fixN)) (HFD : Hid (FD = fixD)) (s : ByteArray) (most : Nat) (w : World) (hs : s.size ≤ 140737488355328) (hm2 : most ≤ 8000) (R : List UInt8 × Int) (HR : Hid (R = match runP s most 0 [] with
    | some (p, o) => if endP s p then (o, 0) else ([], 6)
    | none => ([], 6))) :
    Calls Tryd.prog 6 #[.string s, .int .i64 (most : Int)] w fun e w' => Below w.heap.size w w' ∧ e = .returned (.tuple #[.string ⟨R.1.toArray⟩, .int .i64 R.2]) := by
  have h0 : ¬ (most : Int) < 0 := by omega
  have h1 : ¬ (8000 : Int) < (most : Int) := by omega
  obtain ⟨RR, HRR⟩ : ∃ RR, Hid (runG s most (8 * s.size + 1) 0 [] = RR) := ⟨_, rfl⟩
  have HN : Hid (RR = none → R = ([], 6)) := fun hn => by
    rw [HR.out, show runP s most 0 [] = RR from HRR.out, hn]
  have HS : Hid (∀ p o, RR = some (p, o) → (endP s p → R = (o, 0)) ∧ (¬ endP s p → R = ([], 6))) := fun p o h => by
    rw [HR.out, show runP s most 0 [] = RR from HRR.out, h]
    exact ⟨fun he => if_pos he, fun he => if_neg he⟩
  clear HR
  have HT0 : Hid (∀ t, TA w.heap.size (w.heap.size + 1) s 0 [] most false (w.alloc (.cells #[.string s, .int .i64 0, .bool false, .slice none 0 0, .int .i64 (most : Int)] t)) ∧ Below w.heap.size w (w.alloc (.cells #[.string s, .int .i64 0, .bool false, .slice none 0 0, .int .i64 (most : Int)] t))) := fun t => ⟨fresh_text w s most t, below_one _ _⟩
  go_enter Tryd.func6, Tryd.ntmps6
  go_wp2
  go_loopw [7, 8, 9] (fun l _ _ wr => ∃ (last p : Nat) (o : List UInt8), l = .int .i64 (last : Int) ∧ last < 2 ∧ TA w.heap.size (w.heap.size + 1) s p o most false wr ∧ Below w.heap.size w wr ∧ p ≤ 8 * s.size ∧ o.length ≤ most ∧ Hid ((last = 0 → ∃ f, 8 * s.size + 1 - p ≤ f ∧ runG s most f p o = RR) ∧ (last ≠ 0 → RR = some (p, o)))) (fun l _ _ wr => (1 - (intOf l).toNat) * (8 * s.size + 2 - atOf w.heap.size wr))
  case atStart => exact ⟨0, 0, [], rfl, by decide, (HT0.out _).1, (HT0.out _).2, by omega, by simp, ⟨fun _ => ⟨8 * s.size + 1, by omega, HRR.out⟩, fun hc => absurd rfl hc⟩⟩
  case round =>
    clear HT0 HRR
    obtain ⟨last, p, o, rfl, hlast, hM, hB, hp, hm, HI⟩ := hrel
    have HAt : Hid (atOf w.heap.size wr = p) := hM.at
    by_cases hl0 : last = 0
    · have el : ((last : Int) == 0) = true := by simp; omega
      have Hl0 : Hid (last = 0) := hl0
      have HI0 : Hid (∃ f, 8 * s.size + 1 - p ≤ f + 1 ∧ (if 8 * s.size < p + 3 then none else aft s most f (bitsVal s p 1) (blockP s most (bitsVal s (p + 1) 2) (p + 3) o)) = RR) := by
        obtain ⟨f3, i2, i3⟩ := HI.out.1 hl0
        obtain ⟨f4, rfl⟩ : ∃ f4, f3 = f4 + 1 := ⟨f3 - 1, by omega⟩
        rw [runG_eq] at i3
        exact ⟨f4, i2, i3⟩
      clear hl0 HI
      go_wp2_with fail
      refine (many_any 1 hM hs hp (by decide)).mono ?_
      rintro e w1 ⟨v1, p1, bd1, rfl, l1, q1, hM1, k1, f1, g1⟩
      have l1 : v1 < 2 := l1
      go_wp2_with fail
      refine (many_any 2 hM1 hs q1 (by decide)).mono ?_
      rintro e w2 ⟨v2, p2, bd2, rfl, l2, q2, hM2, k2, f2, g2⟩
      have hv2 : v2 < 4 := l2
      have hB2 := below_kept (below_kept hB k1) k2
      have c2 := hM2.c2
      have HF : Hid ((bd2 = true → 8 * s.size < p + 3) ∧ (bd2 = false → p2 = p + 3 ∧ p + 3 ≤ 8 * s.size ∧ v1 = bitsVal s p 1 ∧ v2 = bitsVal s (p + 1) 2)) := by
        refine ⟨fun hb => ?_, fun hb => ?_⟩
        · rcases Nat.lt_or_ge (8 * s.size) (p + 3) with h | h
          · exact h
          · exfalso
            have b1 := g1 (by first | rfl | trivial) (by omega)
            have e1 := (f1 b1).2.2.1
            rw [g2 b1 (by omega)] at hb; cases hb
        · obtain ⟨b1, i2, i3, i4⟩ := f2 hb
          obtain ⟨_, j2, j3, j4⟩ := f1 b1
          subst j3
          exact ⟨by omega, by omega, j4, i4⟩
      clear hM hM1 hB k1 k2 f1 g1 f2 g2
      cases bd2 with
      | true =>
        have HR6 : Hid (R = ([], 6)) := HN.out (by
          obtain ⟨f3, _, i3⟩ := HI0.out
          rw [if_pos (HF.out.1 rfl)] at i3
          exact i3.symm)
        clear hM2
        go_wp2
        go_ret2
        exact ⟨hB2, by rw [HR6.out]; rfl⟩
      | false =>
        have HP2 : Hid (∃ f, 8 * s.size + 1 - p2 ≤ f ∧ aft s most f v1 (blockP s most v2 p2 o) = RR) := by
          obtain ⟨i1, i2, i3, i4⟩ := HF.out.2 rfl
          obtain ⟨f3, j2, j3⟩ := HI0.out
          rw [if_neg (by omega), ← i3, ← i4, ← i1] at j3
          exact ⟨f3, by omega, j3⟩
        have hpp : p < p2 := by have := (HF.out.2 rfl).1; omega
        clear HF HI0
        by_cases h3 : v2 = 3
        · have e3 : ((v2 : Int) == 3) = true := by simp; omega
          have HR6 : Hid (R = ([], 6)) := HN.out (by
            obtain ⟨f3, _, i3⟩ := HP2.out
            rw [blockP_3 s most v2 p2 o (by omega)] at i3
            exact i3.symm)
          clear hM2 h3
          go_wp2
          go_ret2
          exact ⟨hB2, by rw [HR6.out]; rfl⟩
        · have e3 : ((v2 : Int) == 3) = false := by rw [beq_eq_false_iff_ne]; omega
          by_cases h00 : v2 = 0
          · have e0 : ((v2 : Int) == 0) = true := by simp; omega
            have HP2 : Hid (∃ f, 8 * s.size + 1 - p2 ≤ f ∧ aft s most f v1 (storedP s most p2 o) = RR) := by rw [← blockP_0, ← h00]; exact HP2.out
            clear h00 h3
            go_wp2_with fail
            refine (asIsR_walk hM2 hs q2 hm hm2).mono ?_
            rintro e w3 ⟨r, p3, o3, bd3, rfl, hp3, hm3, hM3, k3, q1, q2⟩
            have hB3 := below_kept hB2 k3
            cases r with
            | false =>
              have HR6 : Hid (R = ([], 6)) := HN.out (by
                obtain ⟨f1, hf1, hf2⟩ := HP2.out
                rw [q2 rfl] at hf2
                exact hf2.symm)
              clear hM2 k3 q1 q2 hM3
              go_wp2
              go_ret2
              exact ⟨hB3, by rw [HR6.out]; rfl⟩
            | true =>
              obtain ⟨e3, e4⟩ := q1 rfl
              subst e3
              have HF3 : Hid (p < p3 ∧ (v1 = 0 → ∃ f, 8 * s.size + 1 - p3 ≤ f ∧ runG s most f p3 o3 = RR) ∧ (v1 ≠ 0 → RR = some (p3, o3)) ∧ atOf w.heap.size w3 = p3) := by
                obtain ⟨f1, hf1, hf2⟩ := HP2.out
                have hle := storedP_le e4
                rw [e4] at hf2
                have hf2 : (if v1 = 0 then runG s most f1 p3 o3 else some (p3, o3)) = RR := hf2
                refine ⟨by omega, fun hz => ⟨f1, by omega, by rw [if_pos hz] at hf2; exact hf2⟩, fun hz => by rw [if_neg hz] at hf2; exact hf2.symm, hM3.at⟩
              have HMs : Hid ((1 - v1) * (8 * s.size + 2 - atOf w.heap.size w3) < (1 - last) * (8 * s.size + 2 - atOf w.heap.size wr)) := by
                rw [HF3.out.2.2.2, HAt.out]
                exact step_lt last v1 l1 p p3 (8 * s.size) HF3.out.1 hp3 Hl0.out
              clear hM2 k3 q1 q2 e4 hB2
              go_wp2
              go_roundw
              case rel => exact ⟨v1, p3, o3, rfl, l1, hM3, hB3, hp3, hm3, ⟨HF3.out.2.1, HF3.out.2.2.1⟩⟩
              case measure => simp only [intOf, Int.toNat_natCast]; exact HMs.out
          · have e0 : ((v2 : Int) == 0) = false := by rw [beq_eq_false_iff_ne]; omega
            have hkd : v2 = 1 ∨ v2 = 2 := by omega
            clear h00 h3
            go_wp2_with fail
            refine (blkR_walk FN FD HFN HFD v2 hkd hM2 hs q2 hm hm2).mono ?_
            rintro e w3 ⟨r, p3, o3, bd3, rfl, hp3, hm3, hM3, k3, q1, q2⟩
            have hB3 := below_kept hB2 k3
            cases r with
            | false =>
              have HR6 : Hid (R = ([], 6)) := HN.out (by
                obtain ⟨f1, hf1, hf2⟩ := HP2.out
                rw [q2 rfl] at hf2
                exact hf2.symm)
              clear hM2 k3 q1 q2 hM3
              go_wp2
              go_ret2
              exact ⟨hB3, by rw [HR6.out]; rfl⟩
            | true =>
              obtain ⟨e3, e4⟩ := q1 rfl
              subst e3
              have HF3 : Hid (p < p3 ∧ (v1 = 0 → ∃ f, 8 * s.size + 1 - p3 ≤ f ∧ runG s most f p3 o3 = RR) ∧ (v1 ≠ 0 → RR = some (p3, o3)) ∧ atOf w.heap.size w3 = p3) := by
                obtain ⟨f1, hf1, hf2⟩ := HP2.out
                have hle := blockP_le e4
                rw [e4] at hf2
                have hf2 : (if v1 = 0 then runG s most f1 p3 o3 else some (p3, o3)) = RR := hf2
                refine ⟨by omega, fun hz => ⟨f1, by omega, by rw [if_pos hz] at hf2; exact hf2⟩, fun hz => by rw [if_neg hz] at hf2; exact hf2.symm, hM3.at⟩
              have HMs : Hid ((1 - v1) * (8 * s.size + 2 - atOf w.heap.size w3) < (1 - last) * (8 * s.size + 2 - atOf w.heap.size wr)) := by
                rw [HF3.out.2.2.2, HAt.out]
                exact step_lt last v1 l1 p p3 (8 * s.size) HF3.out.1 hp3 Hl0.out
              clear hM2 k3 q1 q2 e4 hB2
              go_wp2
              go_roundw
              case rel => exact ⟨v1, p3, o3, rfl, l1, hM3, hB3, hp3, hm3, ⟨HF3.out.2.1, HF3.out.2.2.1⟩⟩
              case measure => simp only [intOf, Int.toNat_natCast]; exact HMs.out
    · have el : ((last : Int) == 0) = false := by rw [beq_eq_false_iff_ne]; omega
      have HRs : Hid (RR = some (p, o)) := HI.out.2 hl0
      clear hl0 HI
      go_wp2
      go_loopw [10] (fun _ wx => ∃ q : Nat, TA w.heap.size (w.heap.size + 1) s q o most false wx ∧ Below w.heap.size w wx ∧ p ≤ q ∧ q ≤ 8 * s.size ∧ Hid ((q + 7) / 8 * 8 = (p + 7) / 8 * 8 ∧ ∀ j, p ≤ j → j < q → bitAt s j = 0)) (fun _ wx => (8 - atOf w.heap.size wx % 8) % 8)
      case atStart => exact ⟨p, hM, hB, Nat.le_refl _, hp, ⟨rfl, fun j h1 h2 => by omega⟩⟩
      case round =>
        clear hM hB HAt
        obtain ⟨q, hM, hB, hpq, hq, HZ⟩ := hrel
        have c1 := hM.c1
        have HAt : Hid (atOf w.heap.size wr = q) := hM.at
        obtain ⟨b, HB⟩ : ∃ b, Hid (q % 8 = b) := ⟨_, rfl⟩
        have hb8 : b < 8 := by have := HB.out; omega
        have hr : (q : Int).tmod 8 = (b : Int) := by rw [Int.tmod_eq_emod_of_nonneg (by omega)]; have := HB.out; omega
        have hwb : IntKind.i64.wrap (b : Int) = (b : Int) := wrapNat _ (by omega)
        by_cases hb0 : b = 0
        · have hne : ((b : Int) != 0) = false := by simp; omega
          have HE : Hid (endP s p ↔ q = 8 * s.size) := endP_iff s p q (by have := HZ.out.1; have := HB.out; omega) HZ.out.2
          clear hb0 HZ
          by_cases hqe : q = 8 * s.size
          · have hqn : ((q : Int) != 8 * (s.size : Int)) = false := by simp; omega
            have HR0 : Hid (R = (o, 0)) := (HS.out p o HRs.out).1 (HE.out.2 hqe)
            obtain ⟨v, c3, ho⟩ := hM.c3
            have hcv := own_string ho
            clear hqe
            go_wp2
            go_ret2
            exact ⟨hB, by rw [HR0.out]; rfl⟩
          · have hqn : ((q : Int) != 8 * (s.size : Int)) = true := by simp; omega
            have HR6 : Hid (R = ([], 6)) := (HS.out p o HRs.out).2 (fun he => hqe (HE.out.1 he))
            clear hqe
            go_wp2
            go_ret2
            exact ⟨hB, by rw [HR6.out]; rfl⟩
        · have hne : ((b : Int) != 0) = true := by simp; omega
          have hq8 : q < 8 * s.size := by have := HB.out; omega
          have hbp : 1 ≤ b := by omega
          clear hb0
          go_wp2_with fail
          refine (one_walk hM hs hq).mono ?_
          rintro e w2 ⟨x, q2, bd2, rfl, hx, hq2, hM2, k2, HX⟩
          have hB2 := below_kept hB k2
          obtain ⟨x1, x2, x3⟩ := HX.out.1 hq8
          subst x2; subst x3
          by_cases hx0 : x = 0
          · have ex : ((x : Int) != 0) = false := by simp; omega
            have HZ2 : Hid ((q + 1 + 7) / 8 * 8 = (p + 7) / 8 * 8 ∧ ∀ j, p ≤ j → j < q + 1 → bitAt s j = 0) := by
              refine ⟨by have := HZ.out.1; have := HB.out; omega, fun j h1 h2 => ?_⟩
              by_cases hj : j = q
              · rw [hj, ← x1]; exact hx0
              · exact HZ.out.2 j h1 (by omega)
            have HMs : Hid ((8 - atOf w.heap.size w2 % 8) % 8 < (8 - atOf w.heap.size wr % 8) % 8) := by
              show _ < _
              rw [hM2.at, HAt.out]; have := HB.out; omega
            clear hx0 hM k2 HX x1 HZ hB
            go_wp2
            go_roundw
            case rel => exact ⟨q + 1, hM2, hB2, by omega, hq2, HZ2⟩
            case measure => exact HMs.out
          · have ex : ((x : Int) != 0) = true := by simp; omega
            have HR6 : Hid (R = ([], 6)) := (HS.out p o HRs.out).2 (endP_not s p q hpq (by have := HZ.out.1; have := HB.out; omega) (by rw [← x1]; exact hx0))
            clear hx0 hM k2 HX x1 HZ hB
            go_wp2
            go_ret2
            exact ⟨hB2, by rw [HR6.out]; rfl⟩
theorem infR_walk (s : ByteArray) (m : Int) (w : World) (hs : s.size ≤ 140737488355328) (R : List UInt8 × Int) (HR : Hid (inflP s m = R)) :
    Calls Tryd.prog 6 #[.string s, .int .i64 m] w fun e w' => Below w.heap.size w w' ∧ e = .returned (.tuple #[.string ⟨R.1.toArray⟩, .int .i64 R.2]) := by
  by_cases hm : m < 0 ∨ 8000 < m
  · have HR1 : Hid (R = ([], 1)) := by rw [← HR.out]; unfold inflP; exact if_pos hm
    clear HR
    by_cases h0 : m < 0
    · clear hm
      go_enter Tryd.func6, Tryd.ntmps6
      go_wp2
      go_ret2
      exact ⟨Below.refl _ _, by rw [HR1.out]; rfl⟩
    · have h1 : (8000 : Int) < m := by omega
      clear hm
      go_enter Tryd.func6, Tryd.ntmps6
      go_wp2
      go_ret2
      exact ⟨Below.refl _ _, by rw [HR1.out]; rfl⟩
  · obtain ⟨most, rfl⟩ : ∃ most : Nat, m = (most : Int) := ⟨m.toNat, by omega⟩
    refine infR_good fixN fixD rfl rfl s most w hs (by omega) R ?_
    rw [← HR.out]
    unfold inflP
    rw [if_neg hm]
    rfl
end Go.Proofs.YtjilhneefbakhaaDoor.Inf
