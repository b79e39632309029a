/- satchelkeep's asIs: a deflated text of blocks that are not packed. -/
import Derived.Test.YtjilhneefbakhaaDoorKeepCut
import Derived.Deep.RegionHeld3
namespace Go.Proofs.YtjilhneefbakhaaDoor.Keep
open Go.RowKit Go.Proofs.YtjilhneefbakhaaDoor.Sha

theorem low_int (v n : Int) (w : World) (hv0 : 0 ≤ v) (hv : v < 9223372036854775808) (hn : 0 < n) (hn2 : n ≤ 100) :
    Calls Tryd.prog 17 #[.int .i64 v, .int .i64 n] w fun e w' => e = .returned (.string ⟨(lowL v.toNat n.toNat).toArray⟩) ∧ Below w.heap.size w w' := by
  have h := low_walk v.toNat n.toNat w (by omega) (by omega) (by omega)
  rw [show ((v.toNat : Nat) : Int) = v by omega, show ((n.toNat : Nat) : Int) = n by omega] at h
  exact h
theorem add_list (l : List UInt8) (b : ByteArray) (r : List UInt8) (hb : b.data.toList = r) (hl : l.length + r.length ≤ 9223372036854775807) (wx : World) : (Op.stringOp .add ⟨l.toArray⟩ b).run Tryd.prog wx = .ok (.string ⟨(l ++ r).toArray⟩) wx := by
  have hsz : b.size = r.length := by rw [← hb]; simp
  have hla : (ByteArray.mk l.toArray).size = l.length := by show l.toArray.size = _; simp
  rw [run_string_add_sum wx _ _ (by omega)]
  congr 2
  apply ByteArray.ext
  apply Array.toList_inj.1
  rw [← hb]
  simp
/-- One block that is not packed. -/
def blockL (p : List UInt8) : List UInt8 := lowL 0 1 ++ lowL p.length 2 ++ lowL (65535 - p.length) 2 ++ p
/-- A text of such blocks, with the last one, which is empty. -/
def asIsL (ps : List (List UInt8)) : List UInt8 := (ps.map blockL).flatten ++ lowL 1 1 ++ lowL 0 2 ++ lowL 65535 2
set_option maxRecDepth 100000 in
set_option maxHeartbeats 4000000 in
theorem asIs_walk (L : List ByteArray) (g cap : Nat) (base : Nat) (w : World) (ho : OwnL strv w base (.slice (some ⟨g, 0, none⟩) L.length cap) L) (HL : Hid (L.length ≤ 1048580 ∧ ∀ p ∈ L, p.size ≤ 8000)) :
    Calls Tryd.prog 9 #[.slice (some ⟨g, 0, none⟩) L.length cap] w fun e w' => e = .returned (.string ⟨(asIsL (L.map (·.data.toList))).toArray⟩) ∧ Below w.heap.size w w' := by
  have HC : Hid (∀ j (hj : j < L.length), w.cell? ⟨g, j, none⟩ = some (.string L[j])) := by
    intro j hj
    rcases ho with ⟨h, _⟩ | ⟨g', cap', hv, _, _, _, hc, _⟩
    · cases h
    · injection hv with e1 _ _
      injection e1 with e1
      injection e1 with e1
      subst e1
      exact hc j _ (by simp [hj, strv])
  clear ho
  obtain ⟨N, HN⟩ : ∃ N, Hid (L.length = N) := ⟨_, rfl⟩
  rw [HN.out]
  go_enter Tryd.func9, Tryd.ntmps9
  go_wp2
  go_loopw [3, 4] (fun x i wr => ∃ (k : Nat) (acc : List UInt8), k ≤ N ∧ i = .int .i64 k ∧ x = .string ⟨acc.toArray⟩ ∧ Hid (acc = (((L.take k).map (·.data.toList)).map blockL).flatten ∧ acc.length ≤ 8010 * k) ∧ Below w.heap.size w wr) (fun _ i _ => N - (intOf i).toNat)
  case atStart => exact ⟨0, [], by omega, rfl, rfl, ⟨by simp, by simp⟩, Below.refl _ _⟩
  case round =>
    obtain ⟨k, acc, hk, rfl, rfl, HI, hB⟩ := hrel
    by_cases hlt : k < N
    · have hkL : k < L.length := by rw [HN.out]; exact hlt
      obtain ⟨p, HP⟩ : ∃ p, Hid (L[k] = p) := ⟨L[k], rfl⟩
      have hc : wr.cell? ⟨g, k, none⟩ = some (.string p) := by rw [← HP.out]; exact cell_below hB (HC.out k hkL)
      have hps : p.size ≤ 8000 := by rw [← HP.out]; exact HL.out.2 _ (List.getElem_mem hkL)
      have hkl : k ≤ 1048580 := by have := HL.out.1; omega
      have hal : acc.length ≤ 8399125800 + 8010 := by have := HI.out.2; omega
      obtain ⟨pl, HPl⟩ : ∃ pl, Hid (p.data.toList = pl) := ⟨_, rfl⟩
      have hpl : pl.length = p.size := by rw [← HPl.out]; simp
      have l1 := lowL_len 0 1
      have l2 := lowL_len p.size 2
      have l3 := lowL_len (65535 - p.size) 2
      obtain ⟨t1, HT1⟩ : ∃ t1, Hid (lowL 0 1 = t1) := ⟨_, rfl⟩
      obtain ⟨t2, HT2⟩ : ∃ t2, Hid (lowL p.size 2 = t2) := ⟨_, rfl⟩
      obtain ⟨t3, HT3⟩ : ∃ t3, Hid (lowL (65535 - p.size) 2 = t3) := ⟨_, rfl⟩
      rw [HT1.out] at l1; rw [HT2.out] at l2; rw [HT3.out] at l3
      have a1 := add_list acc ⟨t1.toArray⟩ t1 rfl (by omega)
      have a2 := add_list (acc ++ t1) ⟨t2.toArray⟩ t2 rfl (by simp; omega)
      have a3 := add_list (acc ++ t1 ++ t2) ⟨t3.toArray⟩ t3 rfl (by simp; omega)
      have a4 := add_list (acc ++ t1 ++ t2 ++ t3) p pl HPl.out (by simp; omega)
      obtain ⟨c1, HC1⟩ : ∃ c1, Hid (acc ++ t1 = c1) := ⟨_, rfl⟩
      rw [HC1.out] at a1 a2 a3 a4
      obtain ⟨c2, HC2⟩ : ∃ c2, Hid (c1 ++ t2 = c2) := ⟨_, rfl⟩
      rw [HC2.out] at a2 a3 a4
      obtain ⟨c3, HC3⟩ : ∃ c3, Hid (c2 ++ t3 = c3) := ⟨_, rfl⟩
      rw [HC3.out] at a3 a4
      obtain ⟨c4, HC4⟩ : ∃ c4, Hid (c3 ++ pl = c4) := ⟨_, rfl⟩
      rw [HC4.out] at a4
      have hk0 : (0 : Int) ≤ (k : Int) := by omega
      have hk1 : (k : Int) < (N : Int) := by omega
      have hw3 : IntKind.i64.wrap (65535 - (p.size : Int)) = 65535 - (p.size : Int) := by
        have ey : ((65535 - (p.size : Int)) % 2 ^ 64) = 65535 - (p.size : Int) := by omega
        simp only [IntKind.wrap, IntKind.bits, IntKind.signed, ey]
        rw [if_neg]
        simp only [Bool.true_and, decide_eq_true_eq]
        omega
      have HLow : Hid (∀ (v n : Int) (wx : World), 0 ≤ v → v < 9223372036854775808 → 0 < n → n ≤ 100 → Calls Tryd.prog 17 #[.int .i64 v, .int .i64 n] wx fun e w' => e = .returned (.string ⟨(lowL v.toNat n.toNat).toArray⟩) ∧ Below wx.heap.size wx w') := fun v n wx a b c d => low_int v n wx a b c d
      have hBd : Below w.heap.size w wr.drew := hB.drew
      have hcd : wr.drew.cell? ⟨g, k, none⟩ = some (.string p) := hc
      have hT1 := HT1.out
      have hT2 := HT2.out
      have hT3 := HT3.out
      have hT3' : (65535 - (p.size : Int)).toNat = 65535 - p.size := by omega
      go_wp2_with fail
      go_region_held3 (fun w' => w'.cell? ⟨g, k, none⟩ = some (.string p) ∧ Below w.heap.size w w')
        (first | go_keep | exact ⟨hcd, hBd⟩ | (go_split_ands; exact ⟨cell_below hbL (by assumption), Below.trans (by assumption) (hbL.mono (Below.size (by assumption)))⟩))
        ((go_at_call 17; refine (HLow.out _ _ _ (by omega) (by omega) (by omega) (by omega)).mono ?_; rintro e w' ⟨rfl, hbL⟩))
      rename_i hHeld
      have HB2 := hHeld.2
      have HF : Hid (c4 = (((L.take (k + 1)).map (·.data.toList)).map blockL).flatten ∧ c4.length ≤ 8010 * (k + 1)) := by
        obtain ⟨i1, i2⟩ := HI.out
        have et : L.take (k + 1) = L.take k ++ [L[k]] := List.take_succ_eq_append_getElem hkL
        have eb : blockL pl = t1 ++ t2 ++ t3 ++ pl := by rw [blockL, hpl, HT1.out, HT2.out, HT3.out]
        refine ⟨?_, ?_⟩
        · rw [et, HP.out]
          simp only [List.map_append, List.map_cons, List.map_nil, List.flatten_append, List.flatten_cons, List.flatten_nil, List.append_nil]
          rw [← i1, HPl.out, eb, ← HC4.out, ← HC3.out, ← HC2.out, ← HC1.out]
          simp only [List.append_assoc]
        · rw [← HC4.out, ← HC3.out, ← HC2.out, ← HC1.out]
          simp only [List.length_append]
          omega
      clear hHeld hBd hcd hc hB
      go_wp2
      go_roundw
      case rel => exact ⟨k + 1, c4, by omega, by go_num, rfl, HF, HB2⟩
      case measure => simp [intOf]; omega
    · have hk1 : ¬ (k : Int) < (N : Int) := by omega
      have hal : acc.length ≤ 8399125800 := by have := HI.out.2; have := HL.out.1; have := HN.out; omega
      obtain ⟨t1, HT1⟩ : ∃ t1, Hid (lowL 1 1 = t1) := ⟨_, rfl⟩
      obtain ⟨t2, HT2⟩ : ∃ t2, Hid (lowL 0 2 = t2) := ⟨_, rfl⟩
      obtain ⟨t3, HT3⟩ : ∃ t3, Hid (lowL 65535 2 = t3) := ⟨_, rfl⟩
      have l1 : t1.length = 1 := by rw [← HT1.out]; exact lowL_len _ _
      have l2 : t2.length = 2 := by rw [← HT2.out]; exact lowL_len _ _
      have l3 : t3.length = 2 := by rw [← HT3.out]; exact lowL_len _ _
      have a1 := add_list acc ⟨t1.toArray⟩ t1 rfl (by omega)
      have a2 := add_list (acc ++ t1) ⟨t2.toArray⟩ t2 rfl (by simp; omega)
      have a3 := add_list (acc ++ t1 ++ t2) ⟨t3.toArray⟩ t3 rfl (by simp; omega)
      obtain ⟨c1, HC1⟩ : ∃ c1, Hid (acc ++ t1 = c1) := ⟨_, rfl⟩
      rw [HC1.out] at a1 a2 a3
      obtain ⟨c2, HC2⟩ : ∃ c2, Hid (c1 ++ t2 = c2) := ⟨_, rfl⟩
      rw [HC2.out] at a2 a3
      obtain ⟨c3, HC3⟩ : ∃ c3, Hid (c2 ++ t3 = c3) := ⟨_, rfl⟩
      rw [HC3.out] at a3
      have HF : Hid (c3 = asIsL (L.map (·.data.toList))) := by
        show _ = _
        rw [← HC3.out, ← HC2.out, ← HC1.out, HI.out.1, asIsL, HT1.out, HT2.out, HT3.out, List.take_of_length_le (by rw [HN.out]; omega)]
      go_wp2_with fail
      refine (low_walk 1 1 _ (by decide) (by decide) (by decide)).mono ?_
      rintro e w5 ⟨he, b5⟩
      rw [HT1.out] at he
      subst he
      have B5 := hB.trans (b5.mono hB.size)
      clear b5 hB
      go_wp2_with fail
      refine (low_walk 0 2 _ (by decide) (by decide) (by decide)).mono ?_
      rintro e w6 ⟨he, b6⟩
      rw [HT2.out] at he
      subst he
      have B6 := B5.trans (b6.mono B5.size)
      clear b6 B5
      go_wp2_with fail
      refine (low_walk 65535 2 _ (by decide) (by decide) (by decide)).mono ?_
      rintro e w7 ⟨he, b7⟩
      rw [HT3.out] at he
      subst he
      have B7 := B6.trans (b7.mono B6.size)
      clear b7 B6
      go_wp2
      go_ret
      exact ⟨by rw [HF.out]; rfl, B7⟩
end Go.Proofs.YtjilhneefbakhaaDoor.Keep
