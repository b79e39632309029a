/- digest.spread: the 64 words of a block. -/
import Derived.Test.YtpboclnfjpofjaaDoorShaNat
import Derived.Test.YtpboclnfjpofjaaDoorShaOwn
import Derived.Deep.MidRow
namespace Go.Proofs.YtpboclnfjpofjaaDoor.Sha
open Go.RowKit

def u32s (l : List Nat) : Array Value := (l.map fun n : Nat => Value.int .u32 (n : Int)).toArray
/-- The worlds of spread's loops: the result's block, the words' block. -/
structure SpreadW (L : List Nat) (w wr : World) : Prop where
  bel : Below w.heap.size w wr
  size : wr.heap.size = w.heap.size + 2
  res : wr.there w.heap.size 0 64
  wrd : ∀ j, j < 64 → wr.cell? ⟨w.heap.size + 1, j, none⟩ = some (.int .u32 ((L.getD j 0 : Nat) : Int))
  fro : ∀ j, wr.frozen? ⟨w.heap.size + 1, j, none⟩ = false
theorem SpreadW.start (w : World) : SpreadW [] w ((w.alloc (.cells (Array.replicate 64 (.int .u32 0)) 37)).alloc (.cells (Array.replicate 64 (.int .u32 0)) 37)) where
  bel := (below_one w _).alloc (by simp) _
  size := by simp
  res := by
    intro j hj
    rw [World.cell?_alloc_past _ _ _ (by simp), World.cell?_alloc_at _ _ _ _ rfl, World.frozen?_alloc_past _ _ _ (by simp), World.frozen?_alloc_at _ _ _ _ rfl]
    simp; omega
  wrd := by
    intro j hj
    rw [World.cell?_alloc_at _ _ _ _ (by simp)]
    simp [hj]
  fro := by intro j; rw [World.frozen?_alloc_at _ _ _ _ (by simp)]
theorem SpreadW.drew {L : List Nat} {w wr : World} (h : SpreadW L w wr) (n : Nat) : SpreadW L w (wr.drewN n) where
  bel := h.bel.trans ((below_drewN n).mono h.bel.size)
  size := h.size
  res := h.res
  wrd := h.wrd
  fro := h.fro
theorem SpreadW.put {L : List Nat} {w wr : World} (h : SpreadW L w wr) (x : Nat) : SpreadW (L ++ [x]) w (wr.setCell ⟨w.heap.size + 1, L.length, none⟩ (.int .u32 (x : Int))) where
  bel := h.bel.setCell (p := ⟨w.heap.size + 1, L.length, none⟩) (by simp) _
  size := by rw [← h.size]; simp
  res := by
    intro j hj
    have hne : (⟨w.heap.size + 1, L.length, none⟩ : Addr) ≠ ⟨w.heap.size, 0 + j, none⟩ := by intro e; injection e with e1; omega
    rw [World.cell?_setCell_other _ _ _ _ hne, World.frozen?_setCell]
    exact h.res j hj
  wrd := by
    intro j hj
    by_cases e : j = L.length
    · subst e
      rw [World.cell?_setCell_same _ _ _ (h.wrd L.length hj)]
      simp
    · have hne : (⟨w.heap.size + 1, L.length, none⟩ : Addr) ≠ ⟨w.heap.size + 1, j, none⟩ := by intro e'; injection e' with _ e1; omega
      rw [World.cell?_setCell_other _ _ _ _ hne, h.wrd j hj]
      congr 3
      rw [List.getD_eq_getElem?_getD, List.getD_eq_getElem?_getD]
      rcases Nat.lt_or_ge j L.length with h1 | h1
      · rw [List.getElem?_append_left h1]
      · rw [List.getElem?_eq_none h1, List.getElem?_eq_none (by simp; omega)]
  fro := by intro j; rw [World.frozen?_setCell]; exact h.fro j
theorem info64 : (Tryd.prog.info? 37).map (·.size) = some 64 := by kernel_rfl
theorem getD_at (s : ByteArray) (k : Nat) (h : k < s.size) : s.data.toList.getD k 0 = s[k] := by
  simp [ByteArray.getElem_eq_getElem_data, h]
theorem extract_at (s q : ByteArray) (m n j : Nat) (h : s.extract m n = q) (hj : j < q.size) (hs : m + j < s.size) : q[j] = s[m + j] := by
  subst h
  exact ByteArray.getElem_extract _
theorem results_cell_mid {P : Program} {fn : Func} {p : Tmp} {ty : TypeId} (h : fn.results = #[.cell p ty]) (tmps : Array Value) (w : World) (b : Nat) (cs : List Value) (d : TypeDesc)
    (hp : tmps.getD p undef = .pointer (some ⟨b, 0, none⟩)) (hc : w.rangeAt b 0 cs) (hu : P.underlying ty = some d) (hd : d.isRow = true) (hi : (P.info? ty).map (·.size) = some cs.length) :
    (results fn tmps).run P w = .ok (.agg cs.toArray) w := by
  have hp' : tmps[p]?.getD undef = .pointer (some ⟨b, 0, none⟩) := by simpa using hp
  have hl := run_loadVar_mid (P := P) w b 0 ty cs d hc hu hd hi
  simp only [results, h]
  simp [asAddr, hp', hl]
theorem rangeAt_put (w : World) (b : Nat) (L : List Value) (h : w.there b 0 L.length) : (w.setCells b 0 L).rangeAt b 0 L := by
  intro j v hj
  have hj' := (List.getElem?_eq_some_iff.1 hj)
  rw [World.cell?_setCells_in b L 0 w (fun j hj => (h j hj).1) j hj'.1, ← hj'.2]
set_option maxHeartbeats 1000000 in
theorem spread_walk (b : ByteArray) (w : World) (hb : b.size = 64) :
    Calls Tryd.prog 13 #[.string b] w fun e w' => e = .returned (.agg (u32s (sch b.data.toList 64))) ∧ Below w.heap.size w w' := by
  go_enter Tryd.func13, Tryd.ntmps13
  go_wp2
  go_loopw [9] (fun i wr => ∃ k : Nat, k ≤ 16 ∧ i = .int .i64 k ∧ SpreadW (sch b.data.toList k) w wr) (fun i _ => 16 - (intOf i).toNat)
  case atStart => exact ⟨0, by omega, rfl, SpreadW.start w⟩
  case round =>
    obtain ⟨k, hk, rfl, hW⟩ := hrel
    by_cases hlt : k < 16
    · obtain ⟨q, hq⟩ : ∃ q, b.extract (4 * k) (4 * k + 4) = q := ⟨_, rfl⟩
      have hq4 : q.size = 4 := by rw [← hq, ByteArray.size_extract]; omega
      have hsl : ∀ wx, (Instr.slice 9 (.string b) (some (.int .i64 (4 * (k : Int)))) (some (.int .i64 (4 * (k : Int) + 4))) none).run Tryd.prog wx = .ok (.string q) wx := fun wx => by
        rw [run_slice_string (P := Tryd.prog) wx 9 b .i64 .i64 (4 * (k : Int)) (4 * (k : Int) + 4) Tryd.underlying9 (by omega) (by omega) (by omega)]
        rw [show (4 * (k : Int)).toNat = 4 * k by omega, show (4 * (k : Int) + 4).toNat = 4 * k + 4 by omega, hq]
      have HQ : Hid (b.extract (4 * k) (4 * k + 4) = q) := hq
      clear hq
      have hcell := hW.wrd k (by omega)
      have hfro := hW.fro k
      have h64 : (k : Int) < 64 := by omega
      go_wp2_with fail
      go_still_tail 20, (by kernel_rfl)
      go_wp2
      go_roundw
      case rel =>
        refine ⟨k + 1, by omega, by go_num, ?_⟩
        rw [word4]
        have hp := (hW.put (wordN b.data.toList (sch b.data.toList k) k)).drew 1
        rw [sch_len] at hp
        have HV : wordN b.data.toList (sch b.data.toList k) k = ((q[0].toNat * 256 + q[1].toNat) * 256 + q[2].toNat) * 256 + q[3].toNat := by
          have e0 := extract_at b q _ _ 0 HQ.out (by omega) (by omega)
          have e1 := extract_at b q _ _ 1 HQ.out (by omega) (by omega)
          have e2 := extract_at b q _ _ 2 HQ.out (by omega) (by omega)
          have e3 := extract_at b q _ _ 3 HQ.out (by omega) (by omega)
          unfold wordN
          rw [if_pos hlt, getD_at b (4 * k) (by omega), getD_at b (4 * k + 1) (by omega), getD_at b (4 * k + 2) (by omega), getD_at b (4 * k + 3) (by omega), e0, e1, e2, e3]
          rfl
        rw [← HV]
        exact hp
      case measure => simp [intOf]; omega
    · have hW16 : SpreadW (sch b.data.toList 16) w wr := by rw [← show k = 16 by omega]; exact hW
      clear hW
      go_wp2
      go_loopw [6] (fun i wr => ∃ k : Nat, 16 ≤ k ∧ k ≤ 64 ∧ i = .int .i64 k ∧ SpreadW (sch b.data.toList k) w wr) (fun i _ => 64 - (intOf i).toNat)
      case atStart => exact ⟨16, by omega, by omega, rfl, hW16⟩
      case round =>
        clear hW16 hlt hk
        rename_i k0
        obtain ⟨k, hk1, hk, rfl, hW⟩ := hrel
        by_cases hlt : k < 64
        · obtain ⟨x, hx⟩ : ∃ x, (sch b.data.toList k).getD (k - 15) 0 = x := ⟨_, rfl⟩
          obtain ⟨y, hy⟩ : ∃ y, (sch b.data.toList k).getD (k - 2) 0 = y := ⟨_, rfl⟩
          obtain ⟨u, hu⟩ : ∃ u, (sch b.data.toList k).getD (k - 16) 0 = u := ⟨_, rfl⟩
          obtain ⟨v, hv⟩ : ∃ v, (sch b.data.toList k).getD (k - 7) 0 = v := ⟨_, rfl⟩
          have c1 := hW.wrd (k - 15) (by omega)
          have c2 := hW.wrd (k - 2) (by omega)
          have c3 := hW.wrd (k - 16) (by omega)
          have c4 := hW.wrd (k - 7) (by omega)
          rw [hx] at c1; rw [hy] at c2; rw [hu] at c3; rw [hv] at c4
          have hk64 : (k : Int) < 64 := by omega
          have hk16 : (16 : Int) ≤ k := by omega
          go_wp2_with fail
          go_quiet (fail)
          have hW2 := hW.drew nq
          clear c1 c2 c3 c4 hW
          generalize wr.drewN nq = w2 at *
          have c3 := hW2.wrd (k - 16) (by omega)
          have c4 := hW2.wrd (k - 7) (by omega)
          rw [hu] at c3; rw [hv] at c4
          have c5 := hW2.wrd k (by omega)
          have c6 := hW2.fro k
          have i1 : (k : Int) - 16 < 64 := by omega
          have i2 : (0 : Int) ≤ (k : Int) - 16 := by omega
          have i3 : ((k : Int) - 16).toNat = k - 16 := by omega
          have i4 : (k : Int) - 7 < 64 := by omega
          have i5 : (0 : Int) ≤ (k : Int) - 7 := by omega
          have i6 : ((k : Int) - 7).toNat = k - 7 := by omega
          have i7 : IntKind.i64.wrap ((k : Int) - 16) = (k : Int) - 16 := by rw [show (k : Int) - 16 = ((k - 16 : Nat) : Int) by omega]; exact wrap_i64_nat _ (by omega)
          have i8 : IntKind.i64.wrap ((k : Int) - 7) = (k : Int) - 7 := by rw [show (k : Int) - 7 = ((k - 7 : Nat) : Int) by omega]; exact wrap_i64_nat _ (by omega)
          have i9 : (7 : Int) ≤ (k : Int) := by omega
          have hxl : x < 4294967296 := by rw [← hx]; exact sch_getD _ _ _
          have hyl : y < 4294967296 := by rw [← hy]; exact sch_getD _ _ _
          go_wp2_with fail
          refine (rol x 7 (-7) _ hxl (by decide) (by decide) (by decide)).mono ?_
          rintro e w' ⟨rfl, rfl⟩
          go_wp2_with fail
          refine (rol x 18 (-18) _ hxl (by decide) (by decide) (by decide)).mono ?_
          rintro e w' ⟨rfl, rfl⟩
          go_wp2_with fail
          refine (rol y 17 (-17) _ hyl (by decide) (by decide) (by decide)).mono ?_
          rintro e w' ⟨rfl, rfl⟩
          go_wp2_with fail
          refine (rol y 19 (-19) _ hyl (by decide) (by decide) (by decide)).mono ?_
          rintro e w' ⟨rfl, rfl⟩
          go_wp2_with fail
          go_still_tail 15, (by kernel_rfl)
          go_wp2
          go_roundw
          case rel =>
            refine ⟨k + 1, by omega, by omega, by go_num, ?_⟩
            rw [sg0_u32 hxl, sg1_u32 hyl]
            have hp := (hW2.put (wordN b.data.toList (sch b.data.toList k) k)).drew 1
            rw [sch_len] at hp
            have HV : ((wordN b.data.toList (sch b.data.toList k) k : Nat) : Int) = ((u : Int) + ((sg0 x : Nat) : Int) + (v : Int) + ((sg1 y : Nat) : Int)) % 4294967296 := by
              unfold wordN
              rw [if_neg (by omega), hx, hy, hu, hv]
              omega
            rw [← HV]
            exact hp
          case measure => simp [intOf]; omega
        · have hk64 : k = 64 := by omega
          obtain ⟨L, HL⟩ : ∃ L : List Value, Hid (L = (sch b.data.toList 64).map fun n : Nat => Value.int .u32 (n : Int)) := ⟨_, rfl⟩
          have hLl : L.length = 64 := by rw [HL.out, List.length_map, sch_len]
          have hR : wr.rangeAt (w.heap.size + 1) 0 L := by
            intro j v hj
            have hj64 : j < 64 := by rw [← hLl]; exact (List.getElem?_eq_some_iff.1 hj).1
            rw [Nat.zero_add, hW.wrd j hj64]
            rw [HL.out, List.getElem?_map] at hj
            rw [hk64]
            obtain ⟨y, hy, rfl⟩ := Option.map_eq_some_iff.1 hj
            rw [List.getD_eq_getElem?_getD, hy]; rfl
          have hi : (Tryd.prog.info? 37).map (·.size) = some L.length := by rw [hLl]; exact info64
          have h1 : L.toArray.all (·.oneCell') = true := all_oneCell_toArray (fun v hv => by
            rw [HL.out] at hv
            obtain ⟨n, _, rfl⟩ := List.mem_map.1 hv
            rfl)
          have hth : wr.there w.heap.size 0 L.toArray.size := by rw [show L.toArray.size = 64 by simp [hLl]]; exact hW.res
          have hi2 : (Tryd.prog.info? 37).map (·.size) = some L.toArray.size := hi
          have HB := hW.bel
          have HI : Hid (L.length = 64) := hLl
          have HW : Hid (wr.there w.heap.size 0 L.toArray.size) := hth
          have HLA : Hid (L.toArray.all (·.oneCell') = true) := h1
          have HIA : Hid ((Tryd.prog.info? 37).map (·.size) = some L.toArray.size) := hi
          have HR : Hid (wr.rangeAt (w.heap.size + 1) 0 L) := hR
          clear hLl hth h1 hi hi2 hR hk64 hW
          go_wp2_with (first | refine wpList_load_mid rfl 37 (.tmp 3) rfl (w.heap.size + 1) 0 rfl L _ HR.out Tryd.underlying37 rfl HIA.out ?_ | refine wpList_store_mid rfl 37 (.tmp 2) (.tmp 83) rfl w.heap.size 0 L.toArray rfl rfl HW.out HIA.out HLA.out ?_)
          refine bodyPost_ret (v := .agg L.toArray) (results_cell_mid rfl _ _ w.heap.size L _ rfl (rangeAt_put _ _ _ HW.out) Tryd.underlying37 rfl HIA.out) rfl ⟨?_, ?_⟩
          · rw [HL.out]; rfl
          · exact below_setCells _ (Nat.le_refl _) _ _ _ HB
end Go.Proofs.YtpboclnfjpofjaaDoor.Sha
