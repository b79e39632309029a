/- The document's own Version: it tells what the plain parseV tells, of every text. -/
import Derived.Test.YtoeolaienpopfaaGreatDoorRefE
namespace Go.Proofs.YtoeolaienpopfaaGreatDoor
open Go.RowKit

/-- How the document's Version ends. -/
def RVerEnd (l : List UInt8) (e : Ending) (w' : World) : Prop :=
  (∃ x vv, parseV l = some x ∧ e = .returned (.tuple #[vv, .bool true]) ∧ RVerIs w' vv x) ∨
  (parseV l = none ∧ ∃ n0 n1 n2 ao n cap, e = .returned (.tuple #[.agg #[.int .i64 n0, .int .i64 n1, .int .i64 n2, .slice ao n cap], .bool false]))
theorem StrsAt.cell {w : World} {g n cap : Nat} {L : List ByteArray} (h : StrsAt w (.slice (some ⟨g, 0, none⟩) n cap) L) (k : Nat) (hk : k < L.length) : w.cell? ⟨g, k, none⟩ = some (.string L[k]) := by
  obtain ⟨g', cap', e, _, _, hc⟩ := h.at (by omega)
  cases e
  exact hc k hk
theorem parseV_head {s : ByteArray} (h1 : 1 ≤ s.size) (hv : s[0] = 118) : s.data.toList = 118 :: s.data.toList.drop 1 := by
  have := drop_at s 0 (by omega)
  rw [List.drop_zero, hv] at this
  exact this
theorem parseV_out {s : ByteArray} (h : s.size < 1 ∨ 30 < s.size) : parseV s.data.toList = none := by
  unfold parseV
  rcases h with h | h
  · have e : s.data.toList = [] := nil_of_size (by omega)
    rw [e]; rfl
  · rw [if_pos (by rw [size_len]; exact h)]
theorem parseV_first {s : ByteArray} (h1 : 1 ≤ s.size) (hv : s[0] ≠ 118) : parseV s.data.toList = none := by
  have e := drop_at s 0 (by omega)
  rw [List.drop_zero] at e
  unfold parseV
  rw [e]
  split
  · rfl
  · simp [hv]

set_option maxRecDepth 100000 in
set_option maxHeartbeats 4000000 in
theorem refVersion_walk (s : ByteArray) (w : World) (hs : s.size ≤ 1099511627776) :
    Calls Tryz.prog 19 #[.string s] w fun e w' => RVerEnd s.data.toList e w' ∧ Below w.heap.size w w' := by
  by_cases hout : s.size < 1 ∨ 30 < s.size
  · have HN : Hid (parseV s.data.toList = none) := parseV_out hout
    rcases hout with h | h
    all_goals
      go_enter Tryz.func19, Tryz.ntmps19
      go_wp2
      exact bodyPost_ret (v := .tuple #[.agg #[.int .i64 0, .int .i64 0, .int .i64 0, .slice none 0 0], .bool false]) (by simp [results, Tryz.results19, go_sem]) rfl ⟨Or.inr ⟨HN.out, _, _, _, _, _, _, rfl⟩, below_two _ _ _⟩
  · have h1 : 1 ≤ s.size := by omega
    have h30 : s.size ≤ 30 := by omega
    clear hout
    have d1 : decide ((s.size : Int) < 1) = false := by simp; omega
    have d30 : decide ((30 : Int) < (s.size : Int)) = false := by simp; omega
    by_cases hv : s[0] = 118
    · have hvb : ((s[0].toNat : Int) != 118) = false := by rw [hv]; rfl
      have HHd : Hid (s.data.toList = 118 :: s.data.toList.drop 1) := parseV_head h1 hv
      clear hv
      go_enter Tryz.func19, Tryz.ntmps19
      go_wp2
      go_loop [5, 6, 7, 8] (fun core tail some i => ∃ k : Nat, 1 ≤ k ∧ k ≤ s.size ∧ i = .int .i64 k ∧ ((core = .string (s.extract 1 s.size) ∧ tail = .string ⟨#[]⟩ ∧ some = .bool false ∧ Hid ((45 : UInt8) ∉ (s.data.toList.drop 1).take (k - 1))) ∨ (∃ c t : ByteArray, core = .string c ∧ tail = .string t ∧ some = .bool true ∧ Hid (cutD (s.data.toList.drop 1) = (c.data.toList, t.data.toList, true)) ∧ c.size ≤ 30 ∧ t.size ≤ 30))) (fun _ _ _ i => s.size - (intOf i).toNat)
      case atStart => exact ⟨1, Nat.le_refl _, h1, rfl, Or.inl ⟨rfl, rfl, rfl, by show _ ∉ _; simp⟩⟩
      case round =>
        obtain ⟨k, hk1, hk, rfl, hcase⟩ := hrel
        rcases hcase with ⟨rfl, rfl, rfl, HNo⟩ | ⟨c, t, rfl, rfl, rfl, HCD, hc, ht⟩
        · by_cases hlt : k < s.size
          · by_cases hx : s[k] = 45
            · have hxb : ((s[k].toNat : Int) == 45) = true := by rw [hx]; rfl
              have HCD : Hid (cutD (s.data.toList.drop 1) = ((s.extract 1 k).data.toList, (s.extract (k + 1) s.size).data.toList, true)) := cut_found s k hk1 hlt hx HNo.out
              have hc1 : (s.extract 1 k).size ≤ 30 := by rw [← size_len, extract_list]; simp; omega
              have hc2 : (s.extract (k + 1) s.size).size ≤ 30 := by rw [← size_len, extract_list]; simp; omega
              have hsl := fun wx => run_slice_string (P := Tryz.prog) wx 9 s .i64 .i64 (1 : Int) (k : Int) Tryz.underlying9 (by omega) (by omega) (by omega)
              clear hx HNo
              go_wp2
              go_round
              case rel => exact ⟨k + 1, by omega, by omega, by go_num, Or.inr ⟨_, _, rfl, rfl, rfl, HCD, hc1, hc2⟩⟩
              case measure => simp [intOf]; omega
            · have hxb : ((s[k].toNat : Int) == 45) = false := by
                simp only [beq_eq_false_iff_ne, ne_eq]
                intro e
                exact hx (UInt8.toNat_inj.1 (by show s[k].toNat = 45; omega))
              have HNo' : Hid ((45 : UInt8) ∉ (s.data.toList.drop 1).take (k + 1 - 1)) := piece_skip 45 s 1 k hlt hk1 hx HNo.out
              clear hx HNo
              go_wp2
              go_round
              case rel => exact ⟨k + 1, by omega, by omega, by go_num, Or.inl ⟨rfl, rfl, rfl, HNo'⟩⟩
              case measure => simp [intOf]; omega
          · have HCD : Hid (cutD (s.data.toList.drop 1) = ((s.extract 1 s.size).data.toList, (⟨#[]⟩ : ByteArray).data.toList, false)) := by
              have ht : (s.data.toList.drop 1).take (k - 1) = s.data.toList.drop 1 := List.take_of_length_le (by simp; omega)
              have := HNo.out
              rw [ht] at this
              exact cut_not s this
            have hc : (s.extract 1 s.size).size ≤ 30 := by rw [← size_len, extract_list]; simp; omega
            generalize s.extract 1 s.size = c at *
            clear HNo
            have HPV : Hid (parseV s.data.toList = if (spl c.data.toList).length = 3 ∧ (spl c.data.toList).all numOk = true then some (spl c.data.toList, []) else none) := by
              show _ = _
              rw [HHd.out, parseV_cut (by simp; omega) HCD.out]
              simp
            go_wp2_with fail
            refine (refSplit_walk c 46 _ (by omega)).mono ?_
            rintro e w1 ⟨L, v, hL, rfl, hS, hb1⟩
            rw [splC_spl] at hL
            have HL : Hid (L.map (·.data.toList) = spl c.data.toList) := hL
            have HLS : Hid (∀ p ∈ L, p.size ≤ 30) := by
              intro p hp
              have := (spl_len c.data.toList).1 p.data.toList (by rw [← hL]; exact List.mem_map_of_mem hp)
              rw [size_len, size_len] at this
              omega
            have hR1 := (rvw_start w).below hb1
            have hB1 : Below w.heap.size w w1 := (below_two w _ _).trans (hb1.mono (by simp; omega))
            have hz1 := hb1.size
            simp only [World.size_alloc] at hz1
            obtain ⟨ao, cap, rfl⟩ := hS.slice
            clear hL hb1
            by_cases h3 : L.length = 3
            · have h3' : ((L.length : Int) == 3) = true := by rw [beq_iff_eq]; omega
              obtain ⟨g, cap', hgv, hg, hcap, _⟩ := hS.at (by omega)
              cases hgv
              obtain ⟨b0, b1, b2, rfl⟩ : ∃ b0 b1 b2, L = [b0, b1, b2] := by
                match L, h3 with
                | [b0, b1, b2], _ => exact ⟨b0, b1, b2, rfl⟩
              have q0 := HLS.out b0 (by simp)
              have q1 := HLS.out b1 (by simp)
              have q2 := HLS.out b2 (by simp)
              have HSP : Hid (spl c.data.toList = [b0.data.toList, b1.data.toList, b2.data.toList]) := by show _ = _; rw [← HL.out]; rfl
              clear HL HLS h3 h3'
              have hcap3 : 3 ≤ cap := hcap
              clear hcap
              go_wp2
              go_loopw [10] (fun i wr => ∃ (k : Nat) (n0 n1 n2 : Int), k ≤ 3 ∧ i = .int .i64 k ∧ RVW w.heap.size n0 n1 n2 (.slice none 0 0) wr ∧ StrsAt wr (.slice (some ⟨g, 0, none⟩) 3 cap) [b0, b1, b2] ∧ Below w.heap.size w wr ∧ Hid (0 < k → n0 = val b0.data.toList ∧ numOk b0.data.toList = true) ∧ Hid (1 < k → n1 = val b1.data.toList ∧ numOk b1.data.toList = true) ∧ Hid (2 < k → n2 = val b2.data.toList ∧ numOk b2.data.toList = true)) (fun i _ => 3 - (intOf i).toNat)
              case atStart => exact ⟨0, 0, 0, 0, Nat.zero_le _, rfl, hR1, hS, hB1, fun h => absurd h (by decide), fun h => absurd h (by decide), fun h => absurd h (by decide)⟩
              case round =>
                clear hR1 hS hB1
                obtain ⟨k, n0, n1, n2, hk, rfl, hR, hS, hB, HA, HB, HC⟩ := hrel
                have hzr := hB.size
                rcases (by omega : k = 0 ∨ k = 1 ∨ k = 2 ∨ k = 3) with rfl | rfl | rfl | rfl
                · have hp := hS.cell 0 (by simp)
                  have c0 := hR.c0
                  have c1 := hR.c1
                  have c2 := hR.c2
                  have c3 := hR.c3
                  have vf := hR.vf
                  have rf := hR.rf
                  go_wp2_with fail
                  refine (refNumber_walk b0 _ (by omega)).mono ?_
                  rintro e w' ⟨rfl, rfl⟩
                  by_cases hn : numOk b0.data.toList = true
                  · have hge := numI_ge hn
                    have HOk : Hid (numOk b0.data.toList = true) := hn
                    have HVal : Hid (numI b0.data.toList = val b0.data.toList) := hge.2
                    have hge1 := hge.1
                    clear hge hn
                    rw [HVal.out] at hge1 ⊢
                    go_wp2
                    go_roundw
                    case rel => exact ⟨1, val b0.data.toList, n1, n2, by decide, rfl, hR.put.1 _, hS.set1 _ _ hR.blk1 _, hB.setCell (p := ⟨w.heap.size + 1, 0, none⟩) (by simp) _, fun _ => ⟨rfl, HOk.out⟩, fun h => absurd h (by decide), fun h => absurd h (by decide)⟩
                    case measure => simp [intOf]
                  · have hn : numOk b0.data.toList = false := by simpa using hn
                    have HN : Hid (parseV s.data.toList = none) := by
                      show _ = _
                      rw [HPV.out, HSP.out, if_neg]
                      simp [hn]
                    have HVal : Hid (numI b0.data.toList = -1) := numI_no hn
                    rw [HVal.out]
                    obtain ⟨v0, r0⟩ := hR.r0
                    obtain ⟨v1, r1⟩ := hR.r1
                    obtain ⟨v2, r2⟩ := hR.r2
                    obtain ⟨v3, r3⟩ := hR.r3
                    clear hn
                    go_wp2
                    refine bodyPost_ret (v := .tuple #[.agg #[.int .i64 n0, .int .i64 n1, .int .i64 n2, .slice none 0 0], .bool false]) (by simp [results, Tryz.results19, go_sem, r0, r1, r2, r3]) rfl ⟨Or.inr ⟨HN.out, _, _, _, _, _, _, rfl⟩, ?_⟩
                    exact below_set4 hB _ (Nat.le_refl _) _ _ _ _
                · have hp := hS.cell 1 (by simp)
                  have c0 := hR.c0
                  have c1 := hR.c1
                  have c2 := hR.c2
                  have c3 := hR.c3
                  have vf := hR.vf
                  have rf := hR.rf
                  go_wp2_with fail
                  refine (refNumber_walk b1 _ (by omega)).mono ?_
                  rintro e w' ⟨rfl, rfl⟩
                  by_cases hn : numOk b1.data.toList = true
                  · have hge := numI_ge hn
                    have HOk : Hid (numOk b1.data.toList = true) := hn
                    have HVal : Hid (numI b1.data.toList = val b1.data.toList) := hge.2
                    have hge1 := hge.1
                    clear hge hn
                    rw [HVal.out] at hge1 ⊢
                    go_wp2
                    go_roundw
                    case rel => exact ⟨2, n0, val b1.data.toList, n2, by decide, rfl, hR.put.2.1 _, hS.set1 _ _ hR.blk1 _, hB.setCell (p := ⟨w.heap.size + 1, 1, none⟩) (by simp) _, fun _ => HA.out (by decide), fun _ => ⟨rfl, HOk.out⟩, fun h => absurd h (by decide)⟩
                    case measure => simp [intOf]
                  · have hn : numOk b1.data.toList = false := by simpa using hn
                    have HN : Hid (parseV s.data.toList = none) := by
                      show _ = _
                      rw [HPV.out, HSP.out, if_neg]
                      simp [hn]
                    have HVal : Hid (numI b1.data.toList = -1) := numI_no hn
                    rw [HVal.out]
                    obtain ⟨v0, r0⟩ := hR.r0
                    obtain ⟨v1, r1⟩ := hR.r1
                    obtain ⟨v2, r2⟩ := hR.r2
                    obtain ⟨v3, r3⟩ := hR.r3
                    clear hn
                    go_wp2
                    refine bodyPost_ret (v := .tuple #[.agg #[.int .i64 n0, .int .i64 n1, .int .i64 n2, .slice none 0 0], .bool false]) (by simp [results, Tryz.results19, go_sem, r0, r1, r2, r3]) rfl ⟨Or.inr ⟨HN.out, _, _, _, _, _, _, rfl⟩, ?_⟩
                    exact below_set4 hB _ (Nat.le_refl _) _ _ _ _
                · have hp := hS.cell 2 (by simp)
                  have c0 := hR.c0
                  have c1 := hR.c1
                  have c2 := hR.c2
                  have c3 := hR.c3
                  have vf := hR.vf
                  have rf := hR.rf
                  go_wp2_with fail
                  refine (refNumber_walk b2 _ (by omega)).mono ?_
                  rintro e w' ⟨rfl, rfl⟩
                  by_cases hn : numOk b2.data.toList = true
                  · have hge := numI_ge hn
                    have HOk : Hid (numOk b2.data.toList = true) := hn
                    have HVal : Hid (numI b2.data.toList = val b2.data.toList) := hge.2
                    have hge1 := hge.1
                    clear hge hn
                    rw [HVal.out] at hge1 ⊢
                    go_wp2
                    go_roundw
                    case rel => exact ⟨3, n0, n1, val b2.data.toList, by decide, rfl, hR.put.2.2.1 _, hS.set1 _ _ hR.blk1 _, hB.setCell (p := ⟨w.heap.size + 1, 2, none⟩) (by simp) _, fun _ => HA.out (by decide), fun _ => HB.out (by decide), fun _ => ⟨rfl, HOk.out⟩⟩
                    case measure => simp [intOf]
                  · have hn : numOk b2.data.toList = false := by simpa using hn
                    have HN : Hid (parseV s.data.toList = none) := by
                      show _ = _
                      rw [HPV.out, HSP.out, if_neg]
                      simp [hn]
                    have HVal : Hid (numI b2.data.toList = -1) := numI_no hn
                    rw [HVal.out]
                    obtain ⟨v0, r0⟩ := hR.r0
                    obtain ⟨v1, r1⟩ := hR.r1
                    obtain ⟨v2, r2⟩ := hR.r2
                    obtain ⟨v3, r3⟩ := hR.r3
                    clear hn
                    go_wp2
                    refine bodyPost_ret (v := .tuple #[.agg #[.int .i64 n0, .int .i64 n1, .int .i64 n2, .slice none 0 0], .bool false]) (by simp [results, Tryz.results19, go_sem, r0, r1, r2, r3]) rfl ⟨Or.inr ⟨HN.out, _, _, _, _, _, _, rfl⟩, ?_⟩
                    exact below_set4 hB _ (Nat.le_refl _) _ _ _ _
                · obtain ⟨rfl, k0⟩ := HA.out (by decide)
                  obtain ⟨rfl, k1⟩ := HB.out (by decide)
                  obtain ⟨rfl, k2⟩ := HC.out (by decide)
                  have HPV2 : Hid (parseV s.data.toList = some ([b0.data.toList, b1.data.toList, b2.data.toList], [])) := by
                    show _ = _
                    rw [HPV.out, HSP.out, if_pos ⟨rfl, by simp [k0, k1, k2]⟩]
                  clear k0 k1 k2 HPV HA HB HC hS
                  obtain ⟨q0', hq0⟩ : ∃ q, q = val b0.data.toList := ⟨_, rfl⟩
                  obtain ⟨q1', hq1⟩ : ∃ q, q = val b1.data.toList := ⟨_, rfl⟩
                  obtain ⟨q2', hq2⟩ : ∃ q, q = val b2.data.toList := ⟨_, rfl⟩
                  rw [← hq0, ← hq1, ← hq2] at hR
                  have HQ0 : Hid (q0' = val b0.data.toList) := hq0
                  have HQ1 : Hid (q1' = val b1.data.toList) := hq1
                  have HQ2 : Hid (q2' = val b2.data.toList) := hq2
                  clear hq0 hq1 hq2
                  obtain ⟨v0, r0⟩ := hR.r0
                  obtain ⟨v1, r1⟩ := hR.r1
                  obtain ⟨v2, r2⟩ := hR.r2
                  obtain ⟨v3, r3⟩ := hR.r3
                  have c0 := hR.c0
                  have c1 := hR.c1
                  have c2 := hR.c2
                  have c3 := hR.c3
                  have rf := hR.rf
                  clear hR
                  go_wp2
                  refine bodyPost_ret (v := .tuple #[.agg #[.int .i64 q0', .int .i64 q1', .int .i64 q2', .slice none 0 0], .bool true]) (by simp [results, Tryz.results19, go_sem, r0, r1, r2, r3]) rfl ⟨Or.inl ⟨_, _, HPV2.out, rfl, _, _, _, _, [], rfl, by rw [HQ0.out, HQ1.out, HQ2.out], strsAt_nil _⟩, ?_⟩
                  exact below_set4 hB _ (Nat.le_refl _) _ _ _ _
            · have h3' : ((L.length : Int) == 3) = false := by rw [beq_eq_false_iff_ne]; omega
              have HN : Hid (parseV s.data.toList = none) := by
                show _ = _
                rw [HPV.out, if_neg]
                rw [← HL.out, List.length_map]
                exact fun h => h3 h.1
              obtain ⟨v0, r0⟩ := hR1.r0
              obtain ⟨v1, r1⟩ := hR1.r1
              obtain ⟨v2, r2⟩ := hR1.r2
              obtain ⟨v3, r3⟩ := hR1.r3
              have c0 := hR1.c0
              have c1 := hR1.c1
              have c2 := hR1.c2
              have c3 := hR1.c3
              have rf := hR1.rf
              clear h3 HPV hR1
              go_wp2
              refine bodyPost_ret (v := .tuple #[.agg #[.int .i64 0, .int .i64 0, .int .i64 0, .slice none 0 0], .bool false]) (by simp [results, Tryz.results19, go_sem, r0, r1, r2, r3]) rfl ⟨Or.inr ⟨HN.out, _, _, _, _, _, _, rfl⟩, ?_⟩
              exact below_set4 hB1 _ (Nat.le_refl _) _ _ _ _
        · by_cases hlt : k < s.size
          all_goals
            have HPV : Hid (parseV s.data.toList = if (spl c.data.toList).length = 3 ∧ (spl c.data.toList).all numOk = true then (if (spl t.data.toList).all markOk = true then some (spl c.data.toList, spl t.data.toList) else none) else none) := by
              show _ = _
              rw [HHd.out, parseV_cut (by simp; omega) HCD.out]
              simp
            go_wp2_with fail
            refine (refSplit_walk c 46 _ (by omega)).mono ?_
            rintro e w1 ⟨L, v, hL, rfl, hS, hb1⟩
            rw [splC_spl] at hL
            have HL : Hid (L.map (·.data.toList) = spl c.data.toList) := hL
            have HLS : Hid (∀ p ∈ L, p.size ≤ 30) := by
              intro p hp
              have := (spl_len c.data.toList).1 p.data.toList (by rw [← hL]; exact List.mem_map_of_mem hp)
              rw [size_len, size_len] at this
              omega
            have hR1 := (rvw_start w).below hb1
            have hB1 : Below w.heap.size w w1 := (below_two w _ _).trans (hb1.mono (by simp; omega))
            have hz1 := hb1.size
            simp only [World.size_alloc] at hz1
            obtain ⟨ao, cap, rfl⟩ := hS.slice
            clear hL hb1
            by_cases h3 : L.length = 3
            · have h3' : ((L.length : Int) == 3) = true := by rw [beq_iff_eq]; omega
              obtain ⟨g, cap', hgv, hg, hcap, _⟩ := hS.at (by omega)
              cases hgv
              obtain ⟨b0, b1, b2, rfl⟩ : ∃ b0 b1 b2, L = [b0, b1, b2] := by
                match L, h3 with
                | [b0, b1, b2], _ => exact ⟨b0, b1, b2, rfl⟩
              have q0 := HLS.out b0 (by simp)
              have q1 := HLS.out b1 (by simp)
              have q2 := HLS.out b2 (by simp)
              have HSP : Hid (spl c.data.toList = [b0.data.toList, b1.data.toList, b2.data.toList]) := by show _ = _; rw [← HL.out]; rfl
              clear HL HLS h3 h3'
              have hcap3 : 3 ≤ cap := hcap
              clear hcap
              go_wp2
              go_loopw [10] (fun i wr => ∃ (k : Nat) (n0 n1 n2 : Int), k ≤ 3 ∧ i = .int .i64 k ∧ RVW w.heap.size n0 n1 n2 (.slice none 0 0) wr ∧ StrsAt wr (.slice (some ⟨g, 0, none⟩) 3 cap) [b0, b1, b2] ∧ Below w.heap.size w wr ∧ Hid (0 < k → n0 = val b0.data.toList ∧ numOk b0.data.toList = true) ∧ Hid (1 < k → n1 = val b1.data.toList ∧ numOk b1.data.toList = true) ∧ Hid (2 < k → n2 = val b2.data.toList ∧ numOk b2.data.toList = true)) (fun i _ => 3 - (intOf i).toNat)
              case atStart => exact ⟨0, 0, 0, 0, Nat.zero_le _, rfl, hR1, hS, hB1, fun h => absurd h (by decide), fun h => absurd h (by decide), fun h => absurd h (by decide)⟩
              case round =>
                clear hR1 hS hB1
                obtain ⟨k, n0, n1, n2, hk, rfl, hR, hS, hB, HA, HB, HC⟩ := hrel
                have hzr := hB.size
                rcases (by omega : k = 0 ∨ k = 1 ∨ k = 2 ∨ k = 3) with rfl | rfl | rfl | rfl
                · have hp := hS.cell 0 (by simp)
                  have c0 := hR.c0
                  have c1 := hR.c1
                  have c2 := hR.c2
                  have c3 := hR.c3
                  have vf := hR.vf
                  have rf := hR.rf
                  go_wp2_with fail
                  refine (refNumber_walk b0 _ (by omega)).mono ?_
                  rintro e w' ⟨rfl, rfl⟩
                  by_cases hn : numOk b0.data.toList = true
                  · have hge := numI_ge hn
                    have HOk : Hid (numOk b0.data.toList = true) := hn
                    have HVal : Hid (numI b0.data.toList = val b0.data.toList) := hge.2
                    have hge1 := hge.1
                    clear hge hn
                    rw [HVal.out] at hge1 ⊢
                    go_wp2
                    go_roundw
                    case rel => exact ⟨1, val b0.data.toList, n1, n2, by decide, rfl, hR.put.1 _, hS.set1 _ _ hR.blk1 _, hB.setCell (p := ⟨w.heap.size + 1, 0, none⟩) (by simp) _, fun _ => ⟨rfl, HOk.out⟩, fun h => absurd h (by decide), fun h => absurd h (by decide)⟩
                    case measure => simp [intOf]
                  · have hn : numOk b0.data.toList = false := by simpa using hn
                    have HN : Hid (parseV s.data.toList = none) := by
                      show _ = _
                      rw [HPV.out, HSP.out, if_neg]
                      simp [hn]
                    have HVal : Hid (numI b0.data.toList = -1) := numI_no hn
                    rw [HVal.out]
                    obtain ⟨v0, r0⟩ := hR.r0
                    obtain ⟨v1, r1⟩ := hR.r1
                    obtain ⟨v2, r2⟩ := hR.r2
                    obtain ⟨v3, r3⟩ := hR.r3
                    clear hn
                    go_wp2
                    refine bodyPost_ret (v := .tuple #[.agg #[.int .i64 n0, .int .i64 n1, .int .i64 n2, .slice none 0 0], .bool false]) (by simp [results, Tryz.results19, go_sem, r0, r1, r2, r3]) rfl ⟨Or.inr ⟨HN.out, _, _, _, _, _, _, rfl⟩, ?_⟩
                    exact below_set4 hB _ (Nat.le_refl _) _ _ _ _
                · have hp := hS.cell 1 (by simp)
                  have c0 := hR.c0
                  have c1 := hR.c1
                  have c2 := hR.c2
                  have c3 := hR.c3
                  have vf := hR.vf
                  have rf := hR.rf
                  go_wp2_with fail
                  refine (refNumber_walk b1 _ (by omega)).mono ?_
                  rintro e w' ⟨rfl, rfl⟩
                  by_cases hn : numOk b1.data.toList = true
                  · have hge := numI_ge hn
                    have HOk : Hid (numOk b1.data.toList = true) := hn
                    have HVal : Hid (numI b1.data.toList = val b1.data.toList) := hge.2
                    have hge1 := hge.1
                    clear hge hn
                    rw [HVal.out] at hge1 ⊢
                    go_wp2
                    go_roundw
                    case rel => exact ⟨2, n0, val b1.data.toList, n2, by decide, rfl, hR.put.2.1 _, hS.set1 _ _ hR.blk1 _, hB.setCell (p := ⟨w.heap.size + 1, 1, none⟩) (by simp) _, fun _ => HA.out (by decide), fun _ => ⟨rfl, HOk.out⟩, fun h => absurd h (by decide)⟩
                    case measure => simp [intOf]
                  · have hn : numOk b1.data.toList = false := by simpa using hn
                    have HN : Hid (parseV s.data.toList = none) := by
                      show _ = _
                      rw [HPV.out, HSP.out, if_neg]
                      simp [hn]
                    have HVal : Hid (numI b1.data.toList = -1) := numI_no hn
                    rw [HVal.out]
                    obtain ⟨v0, r0⟩ := hR.r0
                    obtain ⟨v1, r1⟩ := hR.r1
                    obtain ⟨v2, r2⟩ := hR.r2
                    obtain ⟨v3, r3⟩ := hR.r3
                    clear hn
                    go_wp2
                    refine bodyPost_ret (v := .tuple #[.agg #[.int .i64 n0, .int .i64 n1, .int .i64 n2, .slice none 0 0], .bool false]) (by simp [results, Tryz.results19, go_sem, r0, r1, r2, r3]) rfl ⟨Or.inr ⟨HN.out, _, _, _, _, _, _, rfl⟩, ?_⟩
                    exact below_set4 hB _ (Nat.le_refl _) _ _ _ _
                · have hp := hS.cell 2 (by simp)
                  have c0 := hR.c0
                  have c1 := hR.c1
                  have c2 := hR.c2
                  have c3 := hR.c3
                  have vf := hR.vf
                  have rf := hR.rf
                  go_wp2_with fail
                  refine (refNumber_walk b2 _ (by omega)).mono ?_
                  rintro e w' ⟨rfl, rfl⟩
                  by_cases hn : numOk b2.data.toList = true
                  · have hge := numI_ge hn
                    have HOk : Hid (numOk b2.data.toList = true) := hn
                    have HVal : Hid (numI b2.data.toList = val b2.data.toList) := hge.2
                    have hge1 := hge.1
                    clear hge hn
                    rw [HVal.out] at hge1 ⊢
                    go_wp2
                    go_roundw
                    case rel => exact ⟨3, n0, n1, val b2.data.toList, by decide, rfl, hR.put.2.2.1 _, hS.set1 _ _ hR.blk1 _, hB.setCell (p := ⟨w.heap.size + 1, 2, none⟩) (by simp) _, fun _ => HA.out (by decide), fun _ => HB.out (by decide), fun _ => ⟨rfl, HOk.out⟩⟩
                    case measure => simp [intOf]
                  · have hn : numOk b2.data.toList = false := by simpa using hn
                    have HN : Hid (parseV s.data.toList = none) := by
                      show _ = _
                      rw [HPV.out, HSP.out, if_neg]
                      simp [hn]
                    have HVal : Hid (numI b2.data.toList = -1) := numI_no hn
                    rw [HVal.out]
                    obtain ⟨v0, r0⟩ := hR.r0
                    obtain ⟨v1, r1⟩ := hR.r1
                    obtain ⟨v2, r2⟩ := hR.r2
                    obtain ⟨v3, r3⟩ := hR.r3
                    clear hn
                    go_wp2
                    refine bodyPost_ret (v := .tuple #[.agg #[.int .i64 n0, .int .i64 n1, .int .i64 n2, .slice none 0 0], .bool false]) (by simp [results, Tryz.results19, go_sem, r0, r1, r2, r3]) rfl ⟨Or.inr ⟨HN.out, _, _, _, _, _, _, rfl⟩, ?_⟩
                    exact below_set4 hB _ (Nat.le_refl _) _ _ _ _
                · obtain ⟨rfl, k0⟩ := HA.out (by decide)
                  obtain ⟨rfl, k1⟩ := HB.out (by decide)
                  obtain ⟨rfl, k2⟩ := HC.out (by decide)
                  have HPV2 : Hid (parseV s.data.toList = (if (spl t.data.toList).all markOk = true then some ([b0.data.toList, b1.data.toList, b2.data.toList], spl t.data.toList) else none)) := by
                    show _ = _
                    rw [HPV.out, HSP.out, if_pos ⟨rfl, by simp [k0, k1, k2]⟩]
                  clear k0 k1 k2 HPV HA HB HC hS
                  obtain ⟨q0', hq0⟩ : ∃ q, q = val b0.data.toList := ⟨_, rfl⟩
                  obtain ⟨q1', hq1⟩ : ∃ q, q = val b1.data.toList := ⟨_, rfl⟩
                  obtain ⟨q2', hq2⟩ : ∃ q, q = val b2.data.toList := ⟨_, rfl⟩
                  rw [← hq0, ← hq1, ← hq2] at hR
                  have HQ0 : Hid (q0' = val b0.data.toList) := hq0
                  have HQ1 : Hid (q1' = val b1.data.toList) := hq1
                  have HQ2 : Hid (q2' = val b2.data.toList) := hq2
                  clear hq0 hq1 hq2
                  have c3 := hR.c3
                  have vf := hR.vf
                  go_wp2_with fail
                  refine (refSplit_walk t 46 _ (by omega)).mono ?_
                  rintro e w4 ⟨M, mv, hM, rfl, hSM, hb4⟩
                  rw [splC_spl] at hM
                  have HM : Hid (M.map (·.data.toList) = spl t.data.toList) := hM
                  have HMS : Hid (∀ p ∈ M, p.size ≤ 30) := by
                    intro p hp
                    have := (spl_len t.data.toList).1 p.data.toList (by rw [← hM]; exact List.mem_map_of_mem hp)
                    rw [size_len, size_len] at this
                    omega
                  have hMl : 0 < M.length := by
                    have := congrArg List.length hM
                    rw [List.length_map] at this
                    rw [this]
                    exact List.length_pos_iff.2 (spl_ne _)
                  have hR4 := (hR.below hb4).put.2.2.2 mv
                  have hB4 : Below w.heap.size w (w4.setCell ⟨w.heap.size + 1, 3, none⟩ mv) := (hB.trans (hb4.mono hzr)).setCell (p := ⟨w.heap.size + 1, 3, none⟩) (by simp) _
                  have hSM4 : StrsAt (w4.setCell ⟨w.heap.size + 1, 3, none⟩ mv) mv M := hSM.set1 _ _ (hR.below hb4).blk1 _
                  have cc3 := (hR.below hb4).c3
                  have vf4 := (hR.below hb4).vf
                  have hml : M.length ≤ 101 := by obtain ⟨_, h, _⟩ := hSM; exact h
                  obtain ⟨g2, cap2, rfl, hg2, hcap2, _⟩ := hSM.at hMl
                  have HCell : Hid (∀ k (hk : k < M.length), (w4.setCell ⟨w.heap.size + 1, 3, none⟩ (.slice (some ⟨g2, 0, none⟩) M.length cap2)).cell? ⟨g2, k, none⟩ = some (.string M[k])) := fun k hk => hSM4.cell k hk
                  have HSM4 : Hid (StrsAt (w4.setCell ⟨w.heap.size + 1, 3, none⟩ (.slice (some ⟨g2, 0, none⟩) M.length cap2)) (.slice (some ⟨g2, 0, none⟩) M.length cap2) M) := hSM4
                  clear hM hSM hb4 hR hB c3 vf hSM4
                  go_wp2
                  obtain ⟨v0, r0⟩ := hR4.r0
                  obtain ⟨v1, r1⟩ := hR4.r1
                  obtain ⟨v2, r2⟩ := hR4.r2
                  obtain ⟨v3, r3⟩ := hR4.r3
                  have d0 := hR4.c0
                  have d1 := hR4.c1
                  have d2 := hR4.c2
                  have d3 := hR4.c3
                  have rf := hR4.rf
                  have HBlk : Hid (∃ c, (w4.setCell ⟨w.heap.size + 1, 3, none⟩ (.slice (some ⟨g2, 0, none⟩) M.length cap2)).heap[w.heap.size]? = some (.cells c 43 (0, 0))) := hR4.blk0
                  clear hR4 cc3 vf4
                  go_loop [12] (fun i => ∃ k : Nat, k ≤ M.length ∧ i = .int .i64 k ∧ Hid (∀ p ∈ M.take k, markOk p.data.toList = true)) (fun i => M.length - (intOf i).toNat)
                  case atStart => exact ⟨0, Nat.zero_le _, rfl, by intro p hp; simp at hp⟩
                  case round =>
                    obtain ⟨k, hk, rfl, HAll⟩ := hrel
                    by_cases hlt : k < M.length
                    · have hcell := HCell.out k hlt
                      have hq := HMS.out M[k] (List.getElem_mem hlt)
                      have HTst : Hid (markOk M[k].data.toList = !(!madeB M[k].data.toList markBytes || (madeB M[k].data.toList [48, 49, 50, 51, 52, 53, 54, 55, 56, 57] && decide (numI M[k].data.toList < 0)))) := mark_test _
                      go_wp2_with fail
                      refine (made_walk M[k] _ _ (by omega) (by decide)).mono ?_
                      rintro e w' ⟨he, rfl⟩
                      have he' : e = .returned (.bool (madeB M[k].data.toList markBytes)) := he
                      clear he
                      subst he'
                      go_wp2_with fail
                      refine (made_walk M[k] ⟨#[48, 49, 50, 51, 52, 53, 54, 55, 56, 57]⟩ _ (by omega) (by decide)).mono ?_
                      rintro e w' ⟨he, rfl⟩
                      have he' : e = .returned (.bool (madeB M[k].data.toList [48, 49, 50, 51, 52, 53, 54, 55, 56, 57])) := he
                      clear he
                      subst he'
                      go_wp2_with fail
                      refine (refNumber_walk M[k] _ (by omega)).mono ?_
                      rintro e w' ⟨rfl, rfl⟩
                      by_cases hmk : markOk M[k].data.toList = true
                      · have HAll' : Hid (∀ p ∈ M.take (k + 1), markOk p.data.toList = true) := by
                          show ∀ p ∈ _, _
                          rw [List.take_succ_eq_append_getElem hlt]
                          intro p hp
                          rcases List.mem_append.1 hp with hp | hp
                          · exact HAll.out p hp
                          · rw [List.mem_singleton.1 hp]; exact hmk
                        have hT := HTst.out
                        rw [hmk] at hT
                        clear HTst hmk
                        generalize madeB M[k].data.toList markBytes = x1 at *
                        generalize madeB M[k].data.toList [48, 49, 50, 51, 52, 53, 54, 55, 56, 57] = x2 at *
                        generalize numI M[k].data.toList = x3 at *
                        cases x1
                        · simp at hT
                        · cases x2
                          · clear hT
                            go_wp2
                            go_round
                            case rel => exact ⟨k + 1, by omega, by go_num, HAll'⟩
                            case measure => simp [intOf]; omega
                          · have h3 : ¬ x3 < 0 := by simpa using hT
                            clear hT
                            go_wp2
                            go_round
                            case rel => exact ⟨k + 1, by omega, by go_num, HAll'⟩
                            case measure => simp [intOf]; omega
                      · have hmk : markOk M[k].data.toList = false := by simpa using hmk
                        have HN : Hid (parseV s.data.toList = none) := by
                          show _ = _
                          rw [HPV2.out, if_neg]
                          rw [← HM.out]
                          intro h
                          have := List.all_eq_true.1 h M[k].data.toList (List.mem_map_of_mem (List.getElem_mem hlt))
                          rw [hmk] at this
                          cases this
                        have hT := HTst.out
                        rw [hmk] at hT
                        clear HTst hmk
                        generalize madeB M[k].data.toList markBytes = x1 at *
                        generalize madeB M[k].data.toList [48, 49, 50, 51, 52, 53, 54, 55, 56, 57] = x2 at *
                        generalize numI M[k].data.toList = x3 at *
                        cases x1
                        · clear hT
                          go_wp2
                          refine bodyPost_ret (v := .tuple #[.agg #[.int .i64 q0', .int .i64 q1', .int .i64 q2', .slice (some ⟨g2, 0, none⟩) M.length cap2], .bool false]) (by simp [results, Tryz.results19, go_sem, r0, r1, r2, r3]) rfl ⟨Or.inr ⟨HN.out, _, _, _, _, _, _, rfl⟩, ?_⟩
                          exact below_set4 hB4 _ (Nat.le_refl _) _ _ _ _
                        · cases x2
                          · simp at hT
                          · have h3 : x3 < 0 := by simpa using hT
                            clear hT
                            go_wp2
                            refine bodyPost_ret (v := .tuple #[.agg #[.int .i64 q0', .int .i64 q1', .int .i64 q2', .slice (some ⟨g2, 0, none⟩) M.length cap2], .bool false]) (by simp [results, Tryz.results19, go_sem, r0, r1, r2, r3]) rfl ⟨Or.inr ⟨HN.out, _, _, _, _, _, _, rfl⟩, ?_⟩
                            exact below_set4 hB4 _ (Nat.le_refl _) _ _ _ _
                    · have HPV3 : Hid (parseV s.data.toList = some ([b0.data.toList, b1.data.toList, b2.data.toList], M.map (fun b : ByteArray => b.data.toList))) := by
                        show _ = _
                        have ha : (spl t.data.toList).all markOk = true := by
                          rw [← HM.out, List.all_eq_true]
                          intro p hp
                          obtain ⟨q, hq, rfl⟩ := List.mem_map.1 hp
                          exact HAll.out q (by rw [List.take_of_length_le (by omega)]; exact hq)
                        rw [HPV2.out, if_pos ha, HM.out]
                      go_wp2
                      refine bodyPost_ret (v := .tuple #[.agg #[.int .i64 q0', .int .i64 q1', .int .i64 q2', .slice (some ⟨g2, 0, none⟩) M.length cap2], .bool true]) (by simp [results, Tryz.results19, go_sem, r0, r1, r2, r3]) rfl ⟨Or.inl ⟨_, _, HPV3.out, rfl, _, _, _, _, M, rfl, by rw [HQ0.out, HQ1.out, HQ2.out], ?_⟩, ?_⟩
                      · exact HSM4.out.set4 _ HBlk.out _ _ _ _
                      · exact below_set4 hB4 _ (Nat.le_refl _) _ _ _ _
            · have h3' : ((L.length : Int) == 3) = false := by rw [beq_eq_false_iff_ne]; omega
              have HN : Hid (parseV s.data.toList = none) := by
                show _ = _
                rw [HPV.out, if_neg]
                rw [← HL.out, List.length_map]
                exact fun h => h3 h.1
              obtain ⟨v0, r0⟩ := hR1.r0
              obtain ⟨v1, r1⟩ := hR1.r1
              obtain ⟨v2, r2⟩ := hR1.r2
              obtain ⟨v3, r3⟩ := hR1.r3
              have c0 := hR1.c0
              have c1 := hR1.c1
              have c2 := hR1.c2
              have c3 := hR1.c3
              have rf := hR1.rf
              clear h3 HPV hR1
              go_wp2
              refine bodyPost_ret (v := .tuple #[.agg #[.int .i64 0, .int .i64 0, .int .i64 0, .slice none 0 0], .bool false]) (by simp [results, Tryz.results19, go_sem, r0, r1, r2, r3]) rfl ⟨Or.inr ⟨HN.out, _, _, _, _, _, _, rfl⟩, ?_⟩
              exact below_set4 hB1 _ (Nat.le_refl _) _ _ _ _
    · have hvb : ((s[0].toNat : Int) != 118) = true := by
        simp only [bne_iff_ne, ne_eq]
        intro e
        exact hv (UInt8.toNat_inj.1 (by show s[0].toNat = 118; omega))
      have HN : Hid (parseV s.data.toList = none) := parseV_first h1 hv
      clear hv
      go_enter Tryz.func19, Tryz.ntmps19
      go_wp2
      exact bodyPost_ret (v := .tuple #[.agg #[.int .i64 0, .int .i64 0, .int .i64 0, .slice none 0 0], .bool false]) (by simp [results, Tryz.results19, go_sem]) rfl ⟨Or.inr ⟨HN.out, _, _, _, _, _, _, rfl⟩, below_two _ _ _⟩
end Go.Proofs.YtoeolaienpopfaaGreatDoor
