/- The document's own Digest: it tells what the plain SHA-256 tells, of every text. -/
import Derived.Test.YtpboclnfjpofjaaDoorShaRound
import Derived.Test.YtpboclnfjpofjaaDoorShaOf
namespace Go.Proofs.YtpboclnfjpofjaaDoor.Sha
open Go.RowKit

theorem bytes_of_own {w : World} {base g n cap : Nat} {l : List UInt8} (h : OwnL u8v w base (.slice (some ⟨g, 0, none⟩) n cap) l) : g < w.heap.size ∧ ∀ j, j < l.length → w.cell? ⟨g, j, none⟩ = some (.int .u8 ((l.getD j 0).toNat : Int)) := by
  rcases h with ⟨h, _⟩ | ⟨g', cap', hv, _, hg, _, hc, _⟩
  · cases h
  · injection hv with e1 _ _
    injection e1 with e1
    injection e1 with e1
    subst e1
    exact ⟨hg, fun j hj => hc j _ (by simp [hj, u8v])⟩
theorem own_mono8 {w : World} {base base' : Nat} {v : Value} {l : List UInt8} (h : OwnL u8v w base v l) (hb : base' ≤ base) : OwnL u8v w base' v l := by
  rcases h with h | ⟨g, cap, q1, q2, q3⟩
  · exact .inl h
  · exact .inr ⟨g, cap, q1, Nat.le_trans hb q2, q3⟩
theorem and15i (x : Nat) (hx : x < 4294967296) (n : Nat) : bits .and .i64 ((x : Int) / 2 ^ n) 15 = ((x / 2 ^ n % 16 : Nat) : Int) := by
  have e : (x : Int) / 2 ^ n = ((x / 2 ^ n : Nat) : Int) := by simp
  have e2 : (15 : Int) = ((15 : Nat) : Int) := rfl
  have := div_lt (2 ^ n) hx
  rw [e, e2, i64_and_nat _ _ (by omega) (by decide)]
  exact congrArg _ (Nat.and_two_pow_sub_one_eq_mod _ 4)
/-- By what the length is cut at step j. -/
def byN (j : Nat) : Nat := 72057594037927936 / 256 ^ j
theorem byN_lt (j : Nat) : byN j < 9223372036854775808 := Nat.lt_of_le_of_lt (Nat.div_le_self _ _) (by decide)
theorem byN_pow (j : Nat) (hj : j < 8) : byN j = 2 ^ (56 - 8 * j) := by
  match j, hj with
  | 0, _ => rfl
  | 1, _ => rfl
  | 2, _ => rfl
  | 3, _ => rfl
  | 4, _ => rfl
  | 5, _ => rfl
  | 6, _ => rfl
  | 7, _ => rfl
theorem byN_pos (j : Nat) (hj : j < 8) : 0 < byN j := by rw [byN_pow j hj]; exact Nat.two_pow_pos _
theorem byN_succ (j : Nat) : byN (j + 1) = byN j / 256 := by rw [byN, byN, Nat.div_div_eq_div_mul, Nat.pow_succ]
theorem h0_take (j : Nat) (hj : j < 8) : h0.list.take (j + 1) = h0.list.take j ++ [h0.list.getD j 0] := by
  match j, hj with
  | 0, _ => rfl
  | 1, _ => rfl
  | 2, _ => rfl
  | 3, _ => rfl
  | 4, _ => rfl
  | 5, _ => rfl
  | 6, _ => rfl
  | 7, _ => rfl
set_option maxRecDepth 100000 in
set_option maxHeartbeats 8000000 in
theorem refDigest_walk (s : ByteArray) (w : World) (hs : s.size ≤ 140737488351232) (hT : TabR w) :
    Calls Tryd.prog 5 #[.string s] w fun e w' => e = .returned (.string ⟨(sha s.data.toList).toArray⟩) ∧ Below w.heap.size w w' := by
  obtain ⟨i0, hi, hz0, hz1, hz2⟩ := info_parts u8Info
  obtain ⟨j0, ji, jz0, jz1, jz2⟩ := info_parts i64Info
  obtain ⟨v0, w0, hcv, hown, hbel⟩ := conv_bytes s w
  obtain ⟨l, hl⟩ : ∃ l, s.data.toList = l := ⟨_, rfl⟩
  have hll : l.length = s.size := by rw [← hl]; simp
  rw [hl] at hown ⊢
  obtain ⟨M, hM⟩ : ∃ M, s.size = M := ⟨_, rfl⟩
  have HL : Hid (l.length = M) := by rw [← hM]; exact hll
  rw [hM] at hs
  have HT : Hid (TabR w) := hT
  have hsz : s.size = M := hM
  clear hl hll hM hT
  go_enter Tryd.func5, Tryd.ntmps5
  go_wp2_with (at_builtin; refine wpList_append_one u8v u8v_one rfl _ _ 24 rfl w.heap.size 5 i0 (.int .u8 0) 1 Tryd.underlying24 hi hz0 hz1 hz2 rfl v0 l M HL.out 128 rfl (hown.step (below_one _ _)) w0.heap.size rfl (by simp; rfl) (by omega) (by decide) (by have := hbel.size; simp; omega) ?_)
  intro g cap w1 ho1 hb1
  have hB1 : Below w.heap.size w w1 := (hbel.alloc hbel.size _).trans hb1
  clear hown hbel hcv hb1
  go_wp2
  go_loopw [3] (fun v wr => ∃ (k g cap : Nat) (pre : List UInt8), k ≤ zerosN M ∧ v = .slice (some ⟨g, 0, none⟩) (M + 1 + k) cap ∧ OwnL u8v wr w.heap.size v pre ∧ Hid (pre = l ++ [128] ++ List.replicate k 0) ∧ Hid (pre.length = M + 1 + k) ∧ Below w.heap.size w wr) (fun v _ => match v with | .slice _ n _ => M + 200 - n | _ => 0)
  case atStart => exact ⟨0, g, cap, _, Nat.zero_le _, rfl, ho1, by show _ = _; simp, by show _ = _; rw [List.length_append, HL.out]; rfl, hB1⟩
  case round =>
    clear ho1 hB1
    obtain ⟨k, g, cap, pre, hk, rfl, ho, HP, HPl, hB⟩ := hrel
    have HZ : Hid (zerosN M = (119 - M % 64) % 64) := rfl
    have HK0 : Hid (k < 64) := by have := HZ.out; show _ < _; omega
    by_cases hlt : k < zerosN M
    · have hne : (((M : Int) + 1 + (k : Int)) % 64 != 56) = true := by have := HZ.out; simp; omega
      have hz := hB.size
      have HK1 : Hid (k + 1 ≤ zerosN M) := hlt
      clear hlt
      go_wp2_with (at_builtin; refine wpList_append_one u8v u8v_one rfl _ _ 24 rfl w.heap.size 5 i0 (.int .u8 0) 1 Tryd.underlying24 hi hz0 hz1 hz2 rfl _ pre _ HPl.out 0 rfl (ho.step (below_one _ _)) wr.heap.size rfl (by simp; rfl) (by have := HK0.out; omega) (by decide) (by simp; omega) ?_)
      intro g' cap' w1 ho1 hb1
      have hB1 : Below w.heap.size w w1 := (hB.alloc hz _).trans hb1
      clear hb1 ho hB
      go_wp2
      go_roundw
      case rel => exact ⟨k + 1, g', cap', _, HK1.out, rfl, ho1, by show _ = _; rw [HP.out, List.replicate_succ', ← List.append_assoc], by show _ = _; rw [List.length_append, HPl.out]; rfl, hB1⟩
      case measure => have := HK0.out; show M + 200 - _ < M + 200 - _; omega
    · have hne : (((M : Int) + 1 + (k : Int)) % 64 != 56) = false := by have := HZ.out; simp; omega
      have HK : Hid (k = zerosN M) := by show _ = _; omega
      go_wp2
      go_loopw [3, 5, 6] (fun v by' i wr => ∃ (j g cap : Nat) (acc : List UInt8), j ≤ 8 ∧ i = .int .i64 j ∧ by' = .int .i64 ((byN j : Nat) : Int) ∧ v = .slice (some ⟨g, 0, none⟩) (M + 1 + k + j) cap ∧ OwnL u8v wr w.heap.size v acc ∧ Hid (acc = pre ++ (lenB M).take j) ∧ Hid (acc.length = M + 1 + k + j) ∧ Below w.heap.size w wr) (fun _ _ i _ => 8 - (intOf i).toNat)
      case atStart => exact ⟨0, g, cap, pre, by omega, rfl, rfl, rfl, ho, by show _ = _; simp, HPl.out, hB⟩
      case round =>
        clear ho hB
        obtain ⟨j, g, cap, acc, hj, rfl, rfl, rfl, ho, HA, HAl, hB⟩ := hrel
        by_cases hlt8 : j < 8
        · obtain ⟨D, HD⟩ : ∃ D, Hid (byN j = D) := ⟨_, rfl⟩
          have hD : 0 < D := by rw [← HD.out]; exact byN_pos j hlt8
          obtain ⟨D2, HD2⟩ : ∃ D2, Hid (D2 = D / 256) := ⟨_, rfl⟩
          have hD0 : ((D : Int) == 0) = false := by simp; omega
          have hDl : D < 9223372036854775808 := by rw [← HD.out]; exact byN_lt j
          rw [HD.out]
          have hz := hB.size
          obtain ⟨c, HC⟩ : ∃ c, Hid (c = UInt8.ofNat (8 * M / 2 ^ (56 - 8 * j) % 256)) := ⟨_, rfl⟩
          have HV : Hid (Value.int .u8 ((8 * (M : Int) / (D : Int)).tmod 256 % 256) = u8v c) := by
            show _ = _
            have e1 : 8 * (M : Int) / (D : Int) = ((8 * M / D : Nat) : Int) := by simp
            rw [HC.out, ← byN_pow j hlt8, HD.out, e1, Int.tmod_eq_emod_of_nonneg (Int.natCast_nonneg _)]
            generalize 8 * M / D = q
            exact u8v_ofNat _ _ (by omega) (Nat.mod_lt _ (by decide))
          go_wp2_with (at_builtin; refine wpList_append_one u8v u8v_one rfl _ _ 24 rfl w.heap.size 5 i0 (.int .u8 0) 1 Tryd.underlying24 hi hz0 hz1 hz2 rfl _ acc _ HAl.out c rfl (ho.step (below_one _ _)) wr.heap.size rfl (by rw [World.cell?_alloc_at _ _ _ _ rfl, ← HV.out]; rfl) (by have := HK0.out; omega) (by decide) (by simp; omega) ?_)
          intro g' cap' w1 ho1 hb1
          have hB1 : Below w.heap.size w w1 := (hB.alloc hz _).trans hb1
          clear hb1 ho hB
          go_wp2
          go_roundw
          case rel => exact ⟨j + 1, g', cap', _, by omega, by go_num, by rw [byN_succ, HD.out]; simp, rfl, ho1, by show _ = _; rw [HA.out, lenB_take M j hlt8, HC.out, List.append_assoc], by show _ = _; rw [List.length_append, HAl.out]; rfl, hB1⟩
          case measure => simp [intOf]; omega
        · have HPad : Hid (acc = padT l M) := by
            show _ = _
            rw [HA.out, show j = 8 by omega, HP.out, HK.out, padT, HL.out]; rfl
          obtain ⟨F, HF⟩ : ∃ F, Hid (M + 1 + k + j = F) := ⟨_, rfl⟩
          have HFl : Hid (acc.length = F) := by show _ = _; rw [HAl.out]; exact HF.out
          have HF64 : Hid (F % 64 = 0) := by show _ = _; rw [← HFl.out, HPad.out]; exact padT_whole _ _
          have HFb : Hid (F ≤ M + 200) := by have := HK0.out; show _ ≤ _; rw [← HF.out]; omega
          have hby := bytes_of_own ho
          have HCap : Hid (F ≤ cap) := by
            rcases ho with ⟨h, _⟩ | ⟨g', cap', hv, _, _, hc, _⟩
            · cases h
            · injection hv with _ e2 e3
              have := HF.out
              show _ ≤ _
              rw [← e2] at hc
              omega
          have HBy : Hid (g < wr.heap.size ∧ ∀ i, i < acc.length → wr.cell? ⟨g, i, none⟩ = some (.int .u8 ((acc.getD i 0).toNat : Int))) := hby
          have HT1 : Hid (TabR wr) := HT.out.below hB
          obtain ⟨wl, Hwl⟩ : ∃ wl, Hid (wr = wl) := ⟨_, rfl⟩
          rw [Hwl.out] at HBy HT1 hB
          have HBl : Hid (Below w.heap.size w wl) := hB
          clear ho hby hB
          go_wp2
          go_loopw [7, 8] (fun v i wr => ∃ (m : Nat) (L : List Nat), m ≤ 8 ∧ i = .int .i64 m ∧ OwnL i64v wr wl.heap.size v L ∧ Hid (L = h0.list.take m) ∧ Hid (L.length = m) ∧ Below wl.heap.size wl wr) (fun _ i _ => 8 - (intOf i).toNat)
          case atStart => exact ⟨0, [], by omega, rfl, Own.nil _ _, rfl, rfl, by rw [Hwl.out]; exact Below.refl _ _⟩
          case round =>
            clear Hwl
            obtain ⟨m, L, hm, rfl, hoh, HLm, HLl, hB⟩ := hrel
            have hz := hB.size
            by_cases hlt8m : m < 8
            · obtain ⟨x, HXm⟩ : ∃ x, Hid (h0.list.getD m 0 = x) := ⟨_, rfl⟩
              have cx := (HT1.out.below hB).start m hlt8m
              rw [HXm.out] at cx
              have hm8 : (m : Int) < 8 := by omega
              go_wp2_with (at_builtin; refine wpList_append_one i64v i64v_one rfl _ _ 25 rfl wl.heap.size 3 j0 (.int .i64 0) 8 Tryd.underlying25 ji jz0 jz1 jz2 rfl _ L m HLl.out x rfl (hoh.step (below_one _ _)) wr.heap.size rfl (by rw [World.cell?_alloc_at _ _ _ _ rfl]; rfl) (by omega) (by decide) (by simp; omega) ?_)
              intro g' cap' w1 ho1 hb1
              have hB1 : Below wl.heap.size wl w1 := (hB.alloc hz _).trans hb1
              clear hb1 hoh hB cx
              go_wp2
              go_roundw
              case rel => exact ⟨m + 1, _, by omega, by go_num, ho1, by show _ = _; rw [HLm.out, h0_take m hlt8m, HXm.out], by show _ = _; rw [List.length_append, HLl.out]; rfl, hB1⟩
              case measure => simp [intOf]; omega
            · have HLh : Hid (L = h0.list) := by show _ = _; rw [HLm.out, show m = 8 by omega]; rfl
              obtain ⟨hb, ch, hvh⟩ := Own.form hoh (by intro h; have h2 := HLl.out; rw [List.map_eq_nil_iff.1 h] at h2; simp at h2; omega)
              rw [List.length_map, HLl.out, show m = 8 by omega] at hvh
              subst hvh
              have hNH : NumsAt wr hb h0.list := by rw [← HLh.out]; exact nums_of_own hoh
              clear hoh
              have HBm : Hid (Below wl.heap.size wl wr) := hB
              clear hB hz
              rw [HF.out]
              go_wp2
              go_loopw [7, 9] (fun v i wr => ∃ (q hb ch : Nat) (t : S8), 64 * q ≤ F ∧ i = .int .i64 (64 * (q : Int)) ∧ v = .slice (some ⟨hb, 0, none⟩) 8 ch ∧ NumsAt wr hb t.list ∧ Below wl.heap.size wl wr ∧ Hid t.Ok ∧ Hid (t = blks acc h0 q)) (fun _ i _ => (F + 64) - (intOf i).toNat)
              case atStart => exact ⟨0, hb, ch, h0, by omega, rfl, rfl, hNH, HBm.out, h0_ok, rfl⟩
              case round =>
                clear hNH HBm
                obtain ⟨q, hb, ch, t, hq, rfl, rfl, hNH, hB, HOK, HTq⟩ := hrel
                have hz := hB.size
                by_cases hltF : 64 * q < F
                · have hlt' : 64 * (q : Int) < (F : Int) := by omega
                  have HF3 : Hid (64 * q + 64 ≤ F) := by have := HF64.out; show _ ≤ _; omega
                  have hcap : F ≤ cap := HCap.out
                  have hFm : (F : Int) ≤ 281474976710656 := by have := HFb.out; omega
                  have hF3 : 64 * (q : Int) + 64 ≤ (cap : Int) := by have := HF3.out; omega
                  have hF4 : ¬ cap = 64 * q := by have := HF3.out; omega
                  obtain ⟨blk, HBlk⟩ : ∃ blk, Hid (blk = (acc.drop (64 * q)).take 64) := ⟨_, rfl⟩
                  have HBl64 : Hid (blk.length = 64) := by
                    have h1 := HF3.out; have h2 := HFl.out
                    show _ = _
                    rw [HBlk.out, List.length_take, List.length_drop]; omega
                  have HBA : Hid (BytesAt wr g (64 * q) blk) := by
                    intro i hi
                    have hi : i < 64 := by have := HBl64.out; omega
                    have h1 := HF3.out; have h2 := HFl.out
                    rw [hB.cell (p := ⟨g, 64 * q + i, none⟩) HBy.out.1, HBy.out.2 (64 * q + i) (by omega), HBlk.out]
                    congr 3
                    rw [List.getD_eq_getElem?_getD, List.getD_eq_getElem?_getD, List.getElem?_take_of_lt hi, List.getElem?_drop]
                  obtain ⟨t2, HT2⟩ : ∃ t2, Hid (comp t blk = t2) := ⟨_, rfl⟩
                  go_wp2_with fail
                  refine (round_walk t blk hb ch g (64 * q) _ _ HOK.out hNH (HT1.out.below hB) HBl64.out HBA.out (Nat.lt_of_lt_of_le HBy.out.1 hz)).mono ?_
                  rintro e w2 ⟨v2, rfl, ho2, hb2⟩
                  rw [HT2.out] at ho2
                  have hN2 : OwnL i64v w2 wr.heap.size v2 t2.list := ho2
                  obtain ⟨hb', ch', hv2⟩ := Own.form ho2 (by simp [S8.list])
                  have hv2 : v2 = .slice (some ⟨hb', 0, none⟩) 8 ch' := hv2
                  subst hv2
                  have hNH2 := nums_of_own hN2
                  have hB2 := hB.trans (hb2.mono hz)
                  clear ho2 hN2 hb2 hNH hB HBA
                  go_wp2
                  go_roundw
                  case rel => exact ⟨q + 1, hb', ch', t2, HF3.out, by go_num, rfl, hNH2, hB2, by rw [← HT2.out]; exact comp_ok _ _, by show _ = _; rw [blks, ← HTq.out, ← HT2.out, HBlk.out]⟩
                  case measure => have := HF3.out; simp [intOf]; omega
                · have HFq : Hid (F = 64 * q) := by show _ = _; omega
                  have HSha : Hid (hex8 t = sha l) := by
                    show _ = _
                    have e1 : (padT l l.length).length / 64 = q := by
                      rw [HL.out, ← HPad.out, HFl.out, HFq.out]; omega
                    rw [sha, e1, HL.out, ← HPad.out, ← HTq.out]
                  have HNm : Hid (NumsAt wr hb t.list) := hNH
                  have HBn : Hid (Below wl.heap.size wl wr) := hB
                  obtain ⟨wm, Hwm⟩ : ∃ wm, Hid (wr = wm) := ⟨_, rfl⟩
                  rw [Hwm.out] at HNm HBn
                  have hlt' : ¬ 64 * (q : Int) < (F : Int) := by omega
                  clear hNH hB hz
                  go_wp2
                  go_loopw [10, 11] (fun v i wr => ∃ (a : Nat) (out : List UInt8), a ≤ 8 ∧ i = .int .i64 a ∧ OwnL u8v wr wm.heap.size v out ∧ Hid (out = hexK t a) ∧ Below wm.heap.size wm wr) (fun _ i _ => 8 - (intOf i).toNat)
                  case atStart => exact ⟨0, [], by omega, rfl, Own.nil _ _, rfl, by rw [Hwm.out]; exact Below.refl _ _⟩
                  case round =>
                    clear Hwm
                    obtain ⟨a, out, ha, rfl, ho, HO, hB⟩ := hrel
                    by_cases hlta : a < 8
                    · obtain ⟨x, HXa⟩ : ∃ x, Hid (t.list.getD a 0 = x) := ⟨_, rfl⟩
                      have HXl : Hid (x < 4294967296) := by show _ < _; rw [← HXa.out]; exact s8_lt HOK.out a
                      have cx0 := HNm.out a (by show a < 8; exact hlta)
                      have lhb : hb < wm.heap.size := lt_of_cell cx0
                      rw [HXa.out] at cx0
                      have ha8 : (a : Int) < 8 := by omega
                      have ha8d : decide ((a : Int) < 8) = true := decide_eq_true ha8
                      go_wp2
                      go_loopw [10, 12] (fun v i wr => ∃ (b : Nat) (o2 : List UInt8), b ≤ 8 ∧ i = .int .i64 (7 - (b : Int)) ∧ OwnL u8v wr wm.heap.size v o2 ∧ Hid (o2 = out ++ (hexW x).take b) ∧ Below wm.heap.size wm wr) (fun _ i _ => ((intOf i) + 1).toNat)
                      case atStart => exact ⟨0, out, by omega, rfl, ho, by show _ = _; simp, hB⟩
                      case round =>
                        clear ho hB
                        obtain ⟨b, o2, hb', rfl, ho, HO2, hB⟩ := hrel
                        have hz := hB.size
                        by_cases hltb : b < 8
                        · have cx := cell_below hB cx0
                          have h1 : (0 : Int) ≤ 7 - (b : Int) := by omega
                          have h2 : (0 : Int) ≤ 4 * (7 - (b : Int)) := by omega
                          have h3 : 4 * (7 - (b : Int)) ≤ 64 := by omega
                          have h4 : (4 * (7 - (b : Int))).toNat = 28 - 4 * b := by omega
                          obtain ⟨d, HD⟩ : ∃ d, Hid (d = x / 2 ^ (28 - 4 * b) % 16) := ⟨_, rfl⟩
                          have hd : bits .and .i64 ((x : Int) / 2 ^ (28 - 4 * b)) 15 = (d : Int) := by rw [and15i x HXl.out, HD.out]
                          have HD16 : Hid (d < 16) := by show _ < _; rw [HD.out]; exact Nat.mod_lt _ (by decide)
                          obtain ⟨c, HC⟩ : ∃ c, Hid (digs.getD d 0 = c) := ⟨_, rfl⟩
                          have hdx : ∀ wx, (Instr.index 9 (.string ⟨#[48, 49, 50, 51, 52, 53, 54, 55, 56, 57, 97, 98, 99, 100, 101, 102]⟩) (.int .i64 (d : Int))).run Tryd.prog wx = .ok (.int .u8 (c.toNat : Int)) wx := fun wx => by rw [← HC.out]; exact index_digs .i64 d HD16.out wx
                          obtain ⟨T, HTl⟩ : ∃ T, Hid (o2.length = T) := ⟨_, rfl⟩
                          have HTm : Hid (T ≤ 100) := by
                            show _ ≤ _
                            rw [← HTl.out, HO2.out, List.length_append, HO.out, hexK_len t a (by omega)]
                            have : ((hexW x).take b).length ≤ 8 := by rw [List.length_take, hexW_len]; omega
                            omega
                          go_wp2_with (at_builtin; refine wpList_append_one u8v u8v_one rfl _ _ 24 rfl wm.heap.size 5 i0 (.int .u8 0) 1 Tryd.underlying24 hi hz0 hz1 hz2 rfl _ o2 T HTl.out c rfl (ho.step (below_one _ _)) wr.heap.size rfl (by rw [World.cell?_alloc_at _ _ _ _ rfl]; rfl) (by have := HTm.out; omega) (by decide) (by simp; omega) ?_)
                          intro g' cap' w1 ho1 hb1
                          have hB1 : Below wm.heap.size wm w1 := (hB.alloc hz _).trans hb1
                          clear hb1 ho hB cx
                          go_wp2
                          go_roundw
                          case rel => exact ⟨b + 1, _, by omega, by go_num, ho1, by show _ = _; rw [HO2.out, hexW_take x b hltb, ← HD.out, HC.out, List.append_assoc], hB1⟩
                          case measure => simp [intOf]; omega
                        · have hb8 : ¬ (0 : Int) ≤ 7 - (b : Int) := by omega
                          go_wp2
                          go_roundw
                          case rel =>
                            refine ⟨a + 1, _, by omega, by go_num, ho, ?_, hB⟩
                            show _ = _
                            rw [HO2.out, HO.out, hexK_succ t a hlta, HXa.out, show b = 8 by omega]; rfl
                          case measure => simp [intOf]; omega
                    · have HR : Hid (out = sha l) := by show _ = _; rw [← HSha.out, HO.out, show a = 8 by omega]; rfl
                      have hcv := Own.string ho (by rw [HO.out, hexK_len t a ha]; omega)
                      go_wp2
                      go_ret
                      exact ⟨by rw [HR.out]; rfl, (HBl.out.trans (HBn.out.mono HBl.out.size)).trans (hB.mono (Nat.le_trans HBl.out.size HBn.out.size))⟩
end Go.Proofs.YtpboclnfjpofjaaDoor.Sha
