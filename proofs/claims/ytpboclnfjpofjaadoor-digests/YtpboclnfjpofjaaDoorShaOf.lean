/- digest.Of and satchel.Digest: the SHA-256 of every text, as the plain function tells it. -/
import Derived.Test.YtpboclnfjpofjaaDoorShaHex
namespace Go.Proofs.YtpboclnfjpofjaaDoor.Sha
open Go.RowKit

def s8l (s : S8) : List Value := s.list.map fun n : Nat => Value.int .u32 (n : Int)
theorem s8v_eq (s : S8) : s8v s = .agg (s8l s).toArray := rfl
theorem s8l_len (s : S8) : (s8l s).length = 8 := rfl
theorem s8l_one (s : S8) : ∀ v ∈ s8l s, v.oneCell' = true := fun v hv => by obtain ⟨n, _, rfl⟩ := List.mem_map.1 hv; rfl
/-- The worlds of Of: the state's block. -/
structure OfW (s : S8) (w wl : World) : Prop where
  bel : Below w.heap.size w wl
  lt : w.heap.size < wl.heap.size
  st : wl.rangeAt w.heap.size 0 (s8l s)
  th : wl.there w.heap.size 0 8
  tab : TabP wl
theorem OfW.cell {s : S8} {w wl : World} (h : OfW s w wl) (j : Nat) (hj : j < 8) : wl.cell? ⟨w.heap.size, j, none⟩ = some (.int .u32 ((s.list.getD j 0 : Nat) : Int)) := by
  have := h.st j (.int .u32 ((s.list.getD j 0 : Nat) : Int)) (by
    match j, hj with
    | 0, _ => rfl
    | 1, _ => rfl
    | 2, _ => rfl
    | 3, _ => rfl
    | 4, _ => rfl
    | 5, _ => rfl
    | 6, _ => rfl
    | 7, _ => rfl)
  rwa [Nat.zero_add] at this
theorem OfW.step {s : S8} {w wl w2 : World} (h : OfW s w wl) (hb : Below wl.heap.size wl w2) : OfW s w w2 where
  bel := h.bel.trans (hb.mono h.bel.size)
  lt := Nat.lt_of_lt_of_le h.lt hb.size
  st := fun j v hj => by rw [hb.cell (p := ⟨w.heap.size, 0 + j, none⟩) h.lt]; exact h.st j v hj
  th := fun j hj => by rw [hb.cell (p := ⟨w.heap.size, 0 + j, none⟩) h.lt, hb.frozen (p := ⟨w.heap.size, 0 + j, none⟩) h.lt]; exact h.th j hj
  tab := h.tab.below hb
theorem OfW.put {s : S8} {w wl : World} (h : OfW s w wl) (hT : TabP w) (t : S8) : OfW t w (wl.setCells w.heap.size 0 (s8l t)) where
  bel := below_setCells _ (Nat.le_refl _) _ _ _ h.bel
  lt := by rw [size_setCells]; exact h.lt
  st := rangeAt_put _ _ _ h.th
  th := fun j hj => by
    rw [World.frozen?_setCells]
    refine ⟨?_, (h.th j hj).2⟩
    rw [World.cell?_setCells_in _ (s8l t) 0 wl (fun j hj => (h.th j hj).1) j hj]; rfl
  tab := hT.below (below_setCells _ (Nat.le_refl _) _ _ _ h.bel)
theorem OfW.start {w : World} (hT : TabP w) : OfW h0 w ((w.alloc (.cells (Array.replicate 8 (.int .u32 0)) 29)).setCells w.heap.size 0 (s8l h0)) := by
  have hth : (w.alloc (.cells (Array.replicate 8 (.int .u32 0)) 29)).there w.heap.size 0 8 := fun j hj => by
    rw [World.cell?_alloc_at _ _ _ _ rfl, World.frozen?_alloc_at _ _ _ _ rfl]
    simp; omega
  have hb := below_one w (.cells (Array.replicate 8 (.int .u32 0)) 29)
  refine ⟨below_setCells _ (Nat.le_refl _) _ _ _ hb, by rw [size_setCells]; simp, rangeAt_put _ _ _ hth, fun j hj => ?_, hT.below (below_setCells _ (Nat.le_refl _) _ _ _ hb)⟩
  rw [World.frozen?_setCells]
  refine ⟨?_, (hth j hj).2⟩
  rw [World.cell?_setCells_in _ (s8l h0) 0 _ (fun j hj => (hth j hj).1) j hj]; rfl
theorem TabP.range {w : World} (h : TabP w) : w.rangeAt 1 0 (s8l h0) := by
  intro j v hj
  have hj8 : j < 8 := (List.getElem?_eq_some_iff.1 hj).1
  rw [Nat.zero_add, h.start j hj8, ← hj]
  match j, hj8 with
  | 0, _ => rfl
  | 1, _ => rfl
  | 2, _ => rfl
  | 3, _ => rfl
  | 4, _ => rfl
  | 5, _ => rfl
  | 6, _ => rfl
  | 7, _ => rfl
theorem slice_to (r q : ByteArray) (h : r.extract 0 64 = q) (hl : 64 ≤ r.size) (w : World) : (Instr.slice 9 (.string r) none (some (.int .i64 64)) none).run Tryd.prog w = .ok (.string q) w := by
  rw [run_slice_string_to_if w 9 r .i64 64 Tryd.underlying9, if_pos ⟨by decide, by omega⟩, ← h]; rfl
theorem slice_from (r q : ByteArray) (h : r.extract 64 r.size = q) (hl : 64 ≤ r.size) (w : World) : (Instr.slice 9 (.string r) (some (.int .i64 64)) none none).run Tryd.prog w = .ok (.string q) w := by
  rw [run_slice_string_from_if w 9 r .i64 64 Tryd.underlying9, if_pos ⟨by decide, by omega⟩, ← h]; rfl
theorem ba_ext {a b : ByteArray} (h : a.data.toList = b.data.toList) : a = b := ByteArray.ext (Array.toList_inj.1 h)
theorem extract_list (s : ByteArray) (m k : Nat) : (s.extract m k).data.toList = (s.data.toList.drop m).take (k - m) := by
  rw [ByteArray.data_extract, Array.toList_extract, List.extract_eq_take_drop]
theorem size_len (s : ByteArray) : s.data.toList.length = s.size := by simp
/-- One block on: what is left of a text behind k + 1 blocks. -/
theorem next_block (s r q r2 : ByteArray) (k : Nat) (hr : r = s.extract (64 * k) s.size) (hq : r.extract 0 64 = q) (hr2 : r.extract 64 r.size = r2) (hl : 64 ≤ r.size) (hk : 64 * k ≤ s.size) :
    64 * (k + 1) ≤ s.size ∧ r2 = s.extract (64 * (k + 1)) s.size ∧ r2.size = s.size - 64 * (k + 1) ∧ q.data.toList = (s.data.toList.drop (64 * k)).take 64 := by
  have hrs : r.size = s.size - 64 * k := by rw [hr, ByteArray.size_extract]; omega
  have hrl : r.data.toList = s.data.toList.drop (64 * k) := by
    rw [hr, extract_list, List.take_of_length_le (by rw [List.length_drop, size_len]; omega)]
  refine ⟨by omega, ba_ext ?_, by rw [← hr2, ByteArray.size_extract]; omega, ?_⟩
  · rw [← hr2, extract_list, extract_list, hrl, List.drop_drop, List.take_of_length_le (by rw [List.length_drop, size_len]; omega), List.take_of_length_le (by rw [List.length_drop, size_len]; omega)]
    rfl
  · rw [← hq, extract_list, hrl]; rfl
set_option maxRecDepth 100000 in
set_option maxHeartbeats 4000000 in
theorem of_walk (s : ByteArray) (w : World) (hs : s.size ≤ 140737488355328) (hT : TabP w) :
    Calls Tryd.prog 6 #[.string s] w fun e w' => e = .returned (.string ⟨(sha s.data.toList).toArray⟩) ∧ Below w.heap.size w w' := by
  have HT : Hid (TabP w) := hT
  have HR : Hid (w.rangeAt 1 0 (s8l h0)) := hT.range
  have hS := OfW.start hT
  obtain ⟨L0, HL0⟩ : ∃ L0, Hid (L0 = s8l h0) := ⟨_, rfl⟩
  rw [← HL0.out] at HR hS
  have HI : Hid ((Tryd.prog.info? 29).map (·.size) = some L0.length) := by show _ = _; rw [HL0.out]; exact info8
  have HI2 : Hid ((Tryd.prog.info? 29).map (·.size) = some L0.toArray.size) := by show _ = _; rw [HL0.out]; exact info8
  have HO : Hid (L0.toArray.all (·.oneCell') = true) := by rw [HL0.out]; exact all_oneCell_toArray (s8l_one _)
  have HTh : Hid ((w.alloc (.cells (Array.replicate 8 (.int .u32 0)) 29)).there w.heap.size 0 L0.toArray.size) := by
    rw [HL0.out]
    intro j hj
    have hj : j < 8 := hj
    rw [World.cell?_alloc_at _ _ _ _ rfl, World.frozen?_alloc_at _ _ _ _ rfl]
    simp; omega
  clear hT
  go_enter Tryd.func6, Tryd.ntmps6
  go_wp2_with (first | refine wpList_load_mid rfl 29 (.global 1) rfl 1 0 rfl L0 _ HR.out Tryd.underlying29 rfl HI.out ?_ | refine wpList_store_mid rfl 29 (.tmp 3) (.tmp 5) rfl w.heap.size 0 L0.toArray rfl rfl HTh.out HI2.out HO.out ?_)
  go_loopw [4] (fun v wr => ∃ (k : Nat) (t : S8) (r : ByteArray), v = .string r ∧ 64 * k ≤ s.size ∧ Hid (r = s.extract (64 * k) s.size) ∧ Hid (r.size = s.size - 64 * k) ∧ OfW t w wr ∧ Hid (t = blks s.data.toList h0 k) ∧ Hid t.Ok) (fun v _ => match v with | .string r => r.size | _ => 0)
  case atStart => exact ⟨0, h0, s, rfl, by omega, by show _ = _; simp, by show _ = _; omega, hS, rfl, h0_ok⟩
  case round =>
    clear hS HR HI HI2 HO HTh HL0
    obtain ⟨k, t, r, rfl, hk, HRx, HRs, hW, HTk, HOK⟩ := hrel
    by_cases hlt : 64 ≤ r.size
    · obtain ⟨q, HQ⟩ : ∃ q, Hid (r.extract 0 64 = q) := ⟨_, rfl⟩
      obtain ⟨r2, HR2⟩ : ∃ r2, Hid (r.extract 64 r.size = r2) := ⟨_, rfl⟩
      have HQ64 : Hid (q.size = 64) := by show _ = _; rw [← HQ.out, ByteArray.size_extract]; omega
      have hsl := slice_to r q HQ.out hlt
      have hsl2 := slice_from r r2 HR2.out hlt
      have hlt' : (64 : Int) ≤ (r.size : Int) := by omega
      obtain ⟨t2, HT2⟩ : ∃ t2, Hid (comp t q.data.toList = t2) := ⟨_, rfl⟩
      have c0 := hW.cell 0 (by decide)
      have c1 := hW.cell 1 (by decide)
      have c2 := hW.cell 2 (by decide)
      have c3 := hW.cell 3 (by decide)
      have c4 := hW.cell 4 (by decide)
      have c5 := hW.cell 5 (by decide)
      have c6 := hW.cell 6 (by decide)
      have c7 := hW.cell 7 (by decide)
      simp only [S8.list, List.getD_cons_zero, List.getD_cons_succ] at c0 c1 c2 c3 c4 c5 c6 c7
      go_wp2_with fail
      go_still_tail 3, (by kernel_rfl)
      clear c0 c1 c2 c3 c4 c5 c6 c7
      go_wp2_with fail
      have hWd : OfW t w wr.drew := hW.step (below_drewN 1)
      refine (mix_walk t q _ HOK.out HQ64.out hWd.tab).mono ?_
      rintro e w2 ⟨he, hb2⟩
      rw [HT2.out] at he
      have hW2 := hWd.step hb2
      clear hW hWd hb2
      obtain ⟨L2, HL2⟩ : ∃ L2, Hid (L2 = s8l t2) := ⟨_, rfl⟩
      have he' : e = .returned (.agg L2.toArray) := by rw [he, HL2.out]; rfl
      clear he
      subst he'
      have HTh : Hid (w2.there w.heap.size 0 L2.toArray.size) := by rw [HL2.out]; exact hW2.th
      have HI2 : Hid ((Tryd.prog.info? 29).map (·.size) = some L2.toArray.size) := by show _ = _; rw [HL2.out]; exact info8
      have HO2 : Hid (L2.toArray.all (·.oneCell') = true) := by rw [HL2.out]; exact all_oneCell_toArray (s8l_one _)
      have hW3 : OfW t2 w (w2.setCells w.heap.size 0 L2) := by rw [HL2.out]; exact hW2.put HT.out t2
      have HOK2 : Hid t2.Ok := by rw [← HT2.out]; exact comp_ok _ _
      clear hW2
      go_wp2_with (refine wpList_store_mid rfl 29 (.tmp 3) (.tmp 13) rfl w.heap.size 0 L2.toArray rfl rfl HTh.out HI2.out HO2.out ?_)
      go_roundw
      case rel =>
        obtain ⟨n1, n2, n3, n4⟩ := next_block s r q r2 k HRx.out HQ.out HR2.out hlt hk
        exact ⟨k + 1, t2, r2, rfl, n1, n2, n3, hW3, by show _ = _; rw [blks, ← HT2.out, n4, HTk.out], HOK2⟩
      case measure =>
        obtain ⟨n1, n2, n3, n4⟩ := next_block s r q r2 k HRx.out HQ.out HR2.out hlt hk
        have := HRs.out
        show r2.size < r.size
        omega
    · have hlt' : ¬ (64 : Int) ≤ (r.size : Int) := by omega
      have hr64 : r.size < 64 := by omega
      have HKk : Hid (64 * k ≤ s.size) := hk
      obtain ⟨U, HU⟩ : ∃ U, Hid (s.size = U) := ⟨_, rfl⟩
      go_wp2_with fail
      refine (pad_walk r s.size _ hr64 hs).mono ?_
      rintro e w1 ⟨he, hb1⟩
      obtain ⟨p, HP⟩ : ∃ p : ByteArray, Hid (p = ⟨(padT r.data.toList s.size).toArray⟩) := ⟨_, rfl⟩
      rw [← HP.out] at he
      subst he
      have hW1 := hW.step hb1
      have HP64 : Hid (p.size % 64 = 0) := by
        show _ = _
        have h := padT_whole r.data.toList s.size
        have e : p.size = (padT r.data.toList s.size).length := by rw [HP.out]; show (padT r.data.toList s.size).toArray.size = _; simp
        rw [e]; exact h
      clear hW hb1
      go_wp2
      go_loopw [4] (fun v wr => ∃ (k2 : Nat) (t2 : S8) (r2 : ByteArray), v = .string r2 ∧ 64 * k2 ≤ p.size ∧ Hid (r2 = p.extract (64 * k2) p.size) ∧ Hid (r2.size = p.size - 64 * k2) ∧ OfW t2 w wr ∧ Hid (t2 = blks p.data.toList t k2) ∧ Hid t2.Ok) (fun v _ => match v with | .string r => r.size | _ => 0)
      case atStart => exact ⟨0, t, p, rfl, by omega, by show _ = _; simp, by show _ = _; omega, hW1, rfl, HOK⟩
      case round =>
        clear hW1 hlt hlt' hr64 hk
        obtain ⟨k2, t2, r2, rfl, hk2, HRx2, HRs2, hW, HTk2, HOK2⟩ := hrel
        by_cases hz : r2.size = 0
        · have hne : r2.toList = [] := by
            have : r2.toList.length = 0 := by rw [ByteArray.toList_eq]; simp [hz]
            exact List.eq_nil_of_length_eq_zero this
          have HR : Hid (hex8 t2 = sha s.data.toList) := by
            show _ = _
            have e1 : r.data.toList = s.data.toList.drop (64 * k) := by
              rw [HRx.out, extract_list, List.take_of_length_le (by rw [List.length_drop, size_len]; omega)]
            have e2 : p.data.toList = padT (s.data.toList.drop (64 * k)) s.data.toList.length := by rw [HP.out, ← e1, size_len]
            have e3 : p.size = 64 * k2 := by have := HRs2.out; omega
            have e4 : (padT (s.data.toList.drop (64 * k)) s.data.toList.length).length / 64 = k2 := by
              rw [← e2, size_len, e3]; omega
            rw [sha_two s.data.toList k (by rw [size_len]; exact HKk.out), e4, ← e2, ← HTk.out, ← HTk2.out]
          have c0 := hW.cell 0 (by decide)
          have c1 := hW.cell 1 (by decide)
          have c2 := hW.cell 2 (by decide)
          have c3 := hW.cell 3 (by decide)
          have c4 := hW.cell 4 (by decide)
          have c5 := hW.cell 5 (by decide)
          have c6 := hW.cell 6 (by decide)
          have c7 := hW.cell 7 (by decide)
          simp only [S8.list, List.getD_cons_zero, List.getD_cons_succ] at c0 c1 c2 c3 c4 c5 c6 c7
          go_wp2_with fail
          refine (hexadecimal_walk t2 _ HOK2).mono ?_
          rintro e w2 ⟨he, hb2⟩
          have hB := hW.bel.trans (hb2.mono hW.bel.size)
          rw [HR.out] at he
          subst he
          clear c0 c1 c2 c3 c4 c5 c6 c7 hW
          go_wp2
          go_ret
          exact ⟨rfl, hB⟩
        · have hlt2 : 64 ≤ r2.size := by have := HRs2.out; have := HP64.out; omega
          have hne : r2.toList.isEmpty = false := by
            have : r2.toList.length = r2.size := by rw [ByteArray.toList_eq]; simp
            cases h : r2.toList with
            | nil => rw [h] at this; exact absurd this.symm hz
            | cons _ _ => rfl
          obtain ⟨q, HQ⟩ : ∃ q, Hid (r2.extract 0 64 = q) := ⟨_, rfl⟩
          obtain ⟨r3, HR3⟩ : ∃ r3, Hid (r2.extract 64 r2.size = r3) := ⟨_, rfl⟩
          have HQ64 : Hid (q.size = 64) := by show _ = _; rw [← HQ.out, ByteArray.size_extract]; omega
          have hsl := slice_to r2 q HQ.out hlt2
          have hsl2 := slice_from r2 r3 HR3.out hlt2
          have hlt' : (64 : Int) ≤ (r2.size : Int) := by omega
          obtain ⟨t3, HT2⟩ : ∃ t3, Hid (comp t2 q.data.toList = t3) := ⟨_, rfl⟩
          have c0 := hW.cell 0 (by decide)
          have c1 := hW.cell 1 (by decide)
          have c2 := hW.cell 2 (by decide)
          have c3 := hW.cell 3 (by decide)
          have c4 := hW.cell 4 (by decide)
          have c5 := hW.cell 5 (by decide)
          have c6 := hW.cell 6 (by decide)
          have c7 := hW.cell 7 (by decide)
          simp only [S8.list, List.getD_cons_zero, List.getD_cons_succ] at c0 c1 c2 c3 c4 c5 c6 c7
          go_wp2_with fail
          go_still_tail 3, (by kernel_rfl)
          clear c0 c1 c2 c3 c4 c5 c6 c7
          go_wp2_with fail
          have hWd : OfW t2 w wr.drew := hW.step (below_drewN 1)
          refine (mix_walk t2 q _ HOK2.out HQ64.out hWd.tab).mono ?_
          rintro e w2 ⟨he, hb2⟩
          rw [HT2.out] at he
          have hW2 := hWd.step hb2
          clear hW hWd hb2
          obtain ⟨L2, HL2⟩ : ∃ L2, Hid (L2 = s8l t3) := ⟨_, rfl⟩
          have he' : e = .returned (.agg L2.toArray) := by rw [he, HL2.out]; rfl
          clear he
          subst he'
          have HTh : Hid (w2.there w.heap.size 0 L2.toArray.size) := by rw [HL2.out]; exact hW2.th
          have HI2 : Hid ((Tryd.prog.info? 29).map (·.size) = some L2.toArray.size) := by show _ = _; rw [HL2.out]; exact info8
          have HO2 : Hid (L2.toArray.all (·.oneCell') = true) := by rw [HL2.out]; exact all_oneCell_toArray (s8l_one _)
          have hW3 : OfW t3 w (w2.setCells w.heap.size 0 L2) := by rw [HL2.out]; exact hW2.put HT.out t3
          have HOK3 : Hid t3.Ok := by rw [← HT2.out]; exact comp_ok _ _
          clear hW2
          go_wp2_with (refine wpList_store_mid rfl 29 (.tmp 3) (.tmp 28) rfl w.heap.size 0 L2.toArray rfl rfl HTh.out HI2.out HO2.out ?_)
          go_roundw
          case rel =>
            obtain ⟨n1, n2, n3, n4⟩ := next_block p r2 q r3 k2 HRx2.out HQ.out HR3.out hlt2 hk2
            exact ⟨k2 + 1, t3, r3, rfl, n1, n2, n3, hW3, by show _ = _; rw [blks, ← HT2.out, n4, HTk2.out], HOK3⟩
          case measure =>
            obtain ⟨n1, n2, n3, n4⟩ := next_block p r2 q r3 k2 HRx2.out HQ.out HR3.out hlt2 hk2
            have := HRs2.out
            show r3.size < r2.size
            omega
theorem digest_walk (s : ByteArray) (w : World) (hs : s.size ≤ 140737488355328) (hT : TabP w) :
    Calls Tryd.prog 4 #[.string s] w fun e w' => e = .returned (.string ⟨(sha s.data.toList).toArray⟩) ∧ Below w.heap.size w w' := by
  go_enter Tryd.func4, Tryd.ntmps4
  go_wp2_with fail
  refine (of_walk s _ hs hT).mono ?_
  rintro e w1 ⟨rfl, hb1⟩
  go_wp2
  go_ret
  exact ⟨rfl, hb1⟩
end Go.Proofs.YtpboclnfjpofjaaDoor.Sha
