/- makeCode, walked. -/
import Derived.Test.YtjilhneefbakhaaDoorCodeC
import Derived.Laws.MakeOwn
namespace Go.Proofs.YtjilhneefbakhaaDoor.Inf
open Go.RowKit Go.Proofs.YtjilhneefbakhaaDoor.Sha

theorem results_cell_mid {P : Program} {fn : Func} {p : Tmp} {ty : TypeId} (h : fn.results = #[.cell p ty]) (tmps : Array Value) (w : World) (b : Nat) (cs : List Value) (d : TypeDesc)
    (hp : tmps.getD p undef = .pointer (some ⟨b, 0, none⟩)) (hc : w.rangeAt b 0 cs) (hu : P.underlying ty = some d) (hd : d.isRow = true) (hi : (P.info? ty).map (·.size) = some cs.length) :
    (results fn tmps).run P w = .ok (.agg cs.toArray) w := by
  have hp' : tmps[p]?.getD undef = .pointer (some ⟨b, 0, none⟩) := by simpa using hp
  have hl := run_loadVar_mid (P := P) w b 0 ty cs d hc hu hd hi
  simp only [results, h]
  simp [asAddr, hp', hl]
theorem rangeAt_put (w : World) (b : Nat) (L : List Value) (h : w.there b 0 L.length) : (w.setCells b 0 L).rangeAt b 0 L := by
  intro j v hj
  have hj' := (List.getElem?_eq_some_iff.1 hj)
  rw [World.cell?_setCells_in b L 0 w (fun j hj => (h j hj).1) j hj'.1, ← hj'.2]
/-- Lengths that a slice holds. -/
def LensAt (w : World) (lb lo : Nat) (lens : List Nat) : Prop := ∀ j x, lens[j]? = some x → w.cell? ⟨lb, lo + j, none⟩ = some (.int .i64 ((x : Nat) : Int))
theorem codeInfo : (Tryd.prog.info? 77).map (·.size) = some 17 := by kernel_rfl
theorem intInfo : (Tryd.prog.info? 3).map (fun i => (i.zero, i.size, i.bytes)) = some (some (.int .i64 0), 1, 8) := by kernel_rfl
/-- A set of codes by value. -/
def codeV (lens : List Nat) (sv : Value) : List Value := cntL lens ++ [sv]
theorem zero16 (j : Nat) (hj : j < 16) : (#[.int .i64 0, .int .i64 0, .int .i64 0, .int .i64 0, .int .i64 0, .int .i64 0, .int .i64 0, .int .i64 0, .int .i64 0, .int .i64 0, .int .i64 0, .int .i64 0, .int .i64 0, .int .i64 0, .int .i64 0, .int .i64 0, .slice none 0 0] : Array Value)[j]? = some (.int .i64 0) := by
  match j, hj with
  | 0, _ => rfl
  | 1, _ => rfl
  | 2, _ => rfl
  | 3, _ => rfl
  | 4, _ => rfl
  | 5, _ => rfl
  | 6, _ => rfl
  | 7, _ => rfl
  | 8, _ => rfl
  | 9, _ => rfl
  | 10, _ => rfl
  | 11, _ => rfl
  | 12, _ => rfl
  | 13, _ => rfl
  | 14, _ => rfl
  | 15, _ => rfl
  | n + 16, h => omega
theorem zero17 (j : Nat) (hj : j < 17) : (#[.int .i64 0, .int .i64 0, .int .i64 0, .int .i64 0, .int .i64 0, .int .i64 0, .int .i64 0, .int .i64 0, .int .i64 0, .int .i64 0, .int .i64 0, .int .i64 0, .int .i64 0, .int .i64 0, .int .i64 0, .int .i64 0, .int .i64 0] : Array Value)[j]? = some (.int .i64 0) := by
  match j, hj with
  | 0, _ => rfl
  | 1, _ => rfl
  | 2, _ => rfl
  | 3, _ => rfl
  | 4, _ => rfl
  | 5, _ => rfl
  | 6, _ => rfl
  | 7, _ => rfl
  | 8, _ => rfl
  | 9, _ => rfl
  | 10, _ => rfl
  | 11, _ => rfl
  | 12, _ => rfl
  | 13, _ => rfl
  | 14, _ => rfl
  | 15, _ => rfl
  | 16, _ => rfl
  | n + 17, h => omega
theorem MkW.start (w : World) (lens : List Nat) (t : TypeId) : MkW w (cntK lens 0) [] [] (.slice none 0 0) 2 ((w.alloc (.cells #[.int .i64 0, .int .i64 0, .int .i64 0, .int .i64 0, .int .i64 0, .int .i64 0, .int .i64 0, .int .i64 0, .int .i64 0, .int .i64 0, .int .i64 0, .int .i64 0, .int .i64 0, .int .i64 0, .int .i64 0, .int .i64 0, .slice none 0 0] t)).alloc (.cells #[.int .i64 0, .int .i64 0, .int .i64 0, .int .i64 0, .int .i64 0, .int .i64 0, .int .i64 0, .int .i64 0, .int .i64 0, .int .i64 0, .int .i64 0, .int .i64 0, .int .i64 0, .int .i64 0, .int .i64 0, .int .i64 0, .slice none 0 0] t)) := by
  have hs : (w.alloc (.cells #[.int .i64 0, .int .i64 0, .int .i64 0, .int .i64 0, .int .i64 0, .int .i64 0, .int .i64 0, .int .i64 0, .int .i64 0, .int .i64 0, .int .i64 0, .int .i64 0, .int .i64 0, .int .i64 0, .int .i64 0, .int .i64 0, .slice none 0 0] t)).heap.size = w.heap.size + 1 := by simp
  refine ⟨⟨fun j x hj => ?_, fun j hj => ?_⟩, ?_, ?_, Blk.nil _ _, Blk.nil _ _, fun j hj => ?_, ?_, by simp⟩
  · have hj' : j < 16 := by rw [← cntK_len lens 0]; exact (List.getElem?_eq_some_iff.1 hj).1
    rw [cntK_get lens 0 j hj'] at hj
    injection hj with hj
    subst hj
    rw [World.cell?_alloc_at _ _ _ _ hs.symm]
    exact zero16 j hj'
  · simp
  · rw [World.cell?_alloc_at _ _ _ _ hs.symm]; rfl
  · simp
  · have hb := below_one (w.alloc (.cells #[.int .i64 0, .int .i64 0, .int .i64 0, .int .i64 0, .int .i64 0, .int .i64 0, .int .i64 0, .int .i64 0, .int .i64 0, .int .i64 0, .int .i64 0, .int .i64 0, .int .i64 0, .int .i64 0, .int .i64 0, .int .i64 0, .slice none 0 0] t)) (.cells #[.int .i64 0, .int .i64 0, .int .i64 0, .int .i64 0, .int .i64 0, .int .i64 0, .int .i64 0, .int .i64 0, .int .i64 0, .int .i64 0, .int .i64 0, .int .i64 0, .int .i64 0, .int .i64 0, .int .i64 0, .int .i64 0, .slice none 0 0] t)
    rw [hb.cell (p := ⟨w.heap.size, 0 + j, none⟩) (by rw [hs]; exact Nat.lt_succ_self _), hb.frozen (p := ⟨w.heap.size, 0 + j, none⟩) (by rw [hs]; exact Nat.lt_succ_self _), World.cell?_alloc_at _ _ _ _ rfl, Nat.zero_add]
    refine ⟨?_, by simp⟩
    rcases Nat.lt_or_ge j 16 with h | h
    · show ((#[.int .i64 0, .int .i64 0, .int .i64 0, .int .i64 0, .int .i64 0, .int .i64 0, .int .i64 0, .int .i64 0, .int .i64 0, .int .i64 0, .int .i64 0, .int .i64 0, .int .i64 0, .int .i64 0, .int .i64 0, .int .i64 0, .slice none 0 0] : Array Value)[j]?).isSome = true
      rw [zero16 j h]; rfl
    · obtain rfl : j = 16 := by omega
      rfl
  · exact (below_one w _).trans ((below_one _ _).mono (by simp))
theorem MkW.places {w wr : World} {K : List Nat} {sv : Value} (h : MkW w K [] [] sv 2 wr) (lens : List Nat) (t : TypeId) : MkW w K (plI lens 0) [] sv 3 (wr.alloc (.cells #[.int .i64 0, .int .i64 0, .int .i64 0, .int .i64 0, .int .i64 0, .int .i64 0, .int .i64 0, .int .i64 0, .int .i64 0, .int .i64 0, .int .i64 0, .int .i64 0, .int .i64 0, .int .i64 0, .int .i64 0, .int .i64 0, .int .i64 0] t)) := by
  have hb := below_one wr (.cells #[.int .i64 0, .int .i64 0, .int .i64 0, .int .i64 0, .int .i64 0, .int .i64 0, .int .i64 0, .int .i64 0, .int .i64 0, .int .i64 0, .int .i64 0, .int .i64 0, .int .i64 0, .int .i64 0, .int .i64 0, .int .i64 0, .int .i64 0] t)
  have hs := h.siz
  refine ⟨h.kb.step hb (by omega), by rw [hb.cell (p := ⟨w.heap.size + 1, 16, none⟩) (show w.heap.size + 1 < _ by omega)]; exact h.ks, by rw [hb.frozen (p := ⟨w.heap.size + 1, 16, none⟩) (show w.heap.size + 1 < _ by omega)]; exact h.kf, ⟨fun j x hj => ?_, fun j _ => ?_⟩, Blk.nil _ _, fun j hj => ?_, h.bel.trans (hb.mono h.bel.size), by simp [hs]⟩
  · have hj' : j < 17 := by rw [← plI_len lens 0]; exact (List.getElem?_eq_some_iff.1 hj).1
    rw [plI_get lens 0 j hj'] at hj
    injection hj with hj
    have hx : x = 0 := by rw [← hj]; split; (obtain rfl : j = 0 := by omega); rfl; rfl
    subst hx
    rw [World.cell?_alloc_at _ _ _ _ (show w.heap.size + 2 = wr.heap.size by omega)]
    exact zero17 j hj'
  · rw [← hs]; simp
  · rw [hb.cell (p := ⟨w.heap.size, 0 + j, none⟩) (show w.heap.size < _ by omega), hb.frozen (p := ⟨w.heap.size, 0 + j, none⟩) (show w.heap.size < _ by omega)]; exact h.res j hj
theorem made_get (T j : Nat) (hj : j < T) : (madeCells #[.int .i64 0] T)[j]? = some (.int .i64 0) := by
  simp [madeCells, hj, Nat.mod_one]
theorem MkW.symbols {w wr : World} {K P : List Nat} {sv : Value} (h : MkW w K P [] sv 3 wr) (T : Nat) (t : TypeId) (hP : K.length = 16) : MkW w K P (List.replicate T 0) (.slice (some ⟨w.heap.size + 3, 0, none⟩) T T) 4 ((wr.alloc (.cells (madeCells #[.int .i64 0] T) t)).setCell ⟨w.heap.size + 1, 16, none⟩ (.slice (some ⟨w.heap.size + 3, 0, none⟩) T T)) := by
  have hb := below_one wr (.cells (madeCells #[.int .i64 0] T) t)
  have hs := h.siz
  have hks : (wr.alloc (.cells (madeCells #[.int .i64 0] T) t)).cell? ⟨w.heap.size + 1, 16, none⟩ = some sv := by rw [hb.cell (p := ⟨w.heap.size + 1, 16, none⟩) (show w.heap.size + 1 < _ by omega)]; exact h.ks
  refine ⟨⟨fun j x hj => ?_, fun j hj => ?_⟩, World.cell?_setCell_same _ _ _ hks, ?_, (h.pb.step hb (by omega)).other (by omega), Blk.other ⟨fun j x hj => ?_, fun j _ => ?_⟩ (by omega), there_set (fun j hj => ?_) _ _, (h.bel.trans (hb.mono h.bel.size)).setCell (p := ⟨w.heap.size + 1, 16, none⟩) (show w.heap.size ≤ w.heap.size + 1 by omega) _, by simp [hs]⟩
  · have hj' : j < 16 := by rw [← hP]; exact (List.getElem?_eq_some_iff.1 hj).1
    rw [World.cell?_setCell_other _ _ _ _ (by intro e; injection e with _ e1; omega)]
    exact (h.kb.step hb (by omega)).cell j x hj
  · rw [World.frozen?_setCell]; exact (h.kb.step hb (by omega)).fro j hj
  · rw [World.frozen?_setCell, hb.frozen (p := ⟨w.heap.size + 1, 16, none⟩) (show w.heap.size + 1 < _ by omega)]; exact h.kf
  · have hj' : j < T := by have := (List.getElem?_eq_some_iff.1 hj).1; simpa using this
    rw [List.getElem?_replicate, if_pos hj'] at hj
    injection hj with hj
    subst hj
    rw [World.cell?_alloc_at _ _ _ _ (show w.heap.size + 3 = wr.heap.size by omega)]
    exact made_get T j hj'
  · rw [← hs]; simp
  · rw [hb.cell (p := ⟨w.heap.size, 0 + j, none⟩) (show w.heap.size < _ by omega), hb.frozen (p := ⟨w.heap.size, 0 + j, none⟩) (show w.heap.size < _ by omega)]; exact h.res j hj
section
variable {lb lo cap : Nat} {lens : List Nat} {w : World}
set_option maxRecDepth 100000 in
set_option maxHeartbeats 4000000 in
theorem makeCode_walk (hL : LensAt w lb lo lens) (hne : 0 < lens.length) (hl : lens.length ≤ 1000) (h15 : ∀ x ∈ lens, x ≤ 15) :
    Calls Tryd.prog 46 #[.slice (some ⟨lb, lo, none⟩) lens.length cap] w fun e w' => ∃ l cp, e = .returned (.agg (codeV lens (.slice (some ⟨w.heap.size + 3, 0, none⟩) l.length cp)).toArray) ∧ Below w.heap.size w w' ∧ w.heap.size + 3 < w'.heap.size ∧ Sorted lens l ∧ ∀ j x, l[j]? = some x → w'.cell? ⟨w.heap.size + 3, j, none⟩ = some (.int .i64 ((x : Nat) : Int)) := by
  have hlb : lb < w.heap.size := lt_of_cell (hL 0 lens[0] (List.getElem?_eq_getElem hne))
  have HL : Hid (∀ wr, Below w.heap.size w wr → ∀ j x, lens[j]? = some x → wr.cell? ⟨lb, lo + j, none⟩ = some (.int .i64 ((x : Nat) : Int))) := fun wr hb j x hj => by
    rw [hb.cell (p := ⟨lb, lo + j, none⟩) hlb]; exact hL j x hj
  clear hL
  go_enter Tryd.func46, Tryd.ntmps46
  go_wp2
  go_loopw [5, 13] (fun _ i wr => ∃ k : Nat, k ≤ lens.length ∧ i = .int .i64 k ∧ MkW w (cntK lens k) [] [] (.slice none 0 0) 2 wr) (fun _ i _ => lens.length - (intOf i).toNat)
  case atStart => exact ⟨0, by omega, rfl, MkW.start w lens _⟩
  case round =>
    obtain ⟨k, hk, rfl, hW⟩ := hrel
    by_cases hlt : k < lens.length
    · have hlt' : (k : Int) < (lens.length : Int) := by omega
      obtain ⟨n, HN⟩ : ∃ n, Hid (lens.getD k 0 = n ∧ lens[k]? = some n) := ⟨_, rfl, by rw [List.getD_eq_getElem?_getD, List.getElem?_eq_getElem hlt]; rfl⟩
      have hn15 : n ≤ 15 := h15 n (List.mem_of_getElem? HN.out.2)
      have hc := HL.out wr hW.bel k n HN.out.2
      have hn16 : (n : Int) < 16 := by omega
      obtain ⟨ck, cf⟩ := hW.kb.at n _ (cntK_get lens k n (by omega))
      have hcl := row_len_le lens n k
      obtain ⟨C, HC⟩ : ∃ C, Hid ((row lens n k).length = C) := ⟨_, rfl⟩
      rw [HC.out] at ck hcl
      have hW2 := hW.setK n (C + 1) (by rw [cntK_len]; omega) (cntK_len _ _)
      rw [← HC.out, cntK_step lens k n (by omega) HN.out.1, HC.out] at hW2
      have HW2 : Hid (MkW w (cntK lens (k + 1)) [] [] (.slice none 0 0) 2 (wr.setCell ⟨w.heap.size + 1, n, none⟩ (.int .i64 ((C + 1 : Nat) : Int)))) := hW2
      clear hW2
      go_wp2
      go_roundw
      case rel => exact ⟨k + 1, by omega, by go_num, HW2.out⟩
      case measure => simp [intOf]; omega
    · obtain rfl : k = lens.length := by omega
      have hW1 := hW.setK 0 0 (by rw [cntK_len]; omega) (cntK_len _ _)
      rw [cnL_of] at hW1
      obtain ⟨c0, f0⟩ := hW.kb.at 0 _ (cntK_get lens lens.length 0 (by omega))
      have HRg : Hid (∀ o, ((wr.setCell ⟨w.heap.size + 1, 0, none⟩ (.int .i64 0)).alloc o).rangeAt (w.heap.size + 1) 0 (cntL lens)) := fun o j v hj => by
        have hj' : j < 16 := by rw [← cntL_len lens]; exact (List.getElem?_eq_some_iff.1 hj).1
        rw [cntL_get lens j hj'] at hj
        injection hj with hj
        rw [← hj, Nat.zero_add]
        have hb := below_one (wr.setCell ⟨w.heap.size + 1, 0, none⟩ (.int .i64 0)) o
        have hs := hW1.siz
        rw [hb.cell (p := ⟨w.heap.size + 1, j, none⟩) (by show w.heap.size + 1 < (wr.setCell ⟨w.heap.size + 1, 0, none⟩ (.int .i64 ((0 : Nat) : Int))).heap.size; rw [hs]; omega)]
        exact hW1.kb.cell j _ (cnL_get lens j hj')
      obtain ⟨L, HLL⟩ : ∃ L, Hid (cntL lens = L) := ⟨_, rfl⟩
      rw [HLL.out] at HRg
      have HI : Hid ((Tryd.prog.info? 75).map (·.size) = some L.length) := by show _ = _; rw [← HLL.out, cntL_len]; exact arr16Info
      have hsz : (wr.setCell ⟨w.heap.size + 1, 0, none⟩ (.int .i64 0)).heap.size = w.heap.size + 2 := hW1.siz
      have HW1 : Hid (∀ t, MkW w (cnL lens) (plI lens 0) [] (.slice none 0 0) 3 ((wr.setCell ⟨w.heap.size + 1, 0, none⟩ (.int .i64 0)).alloc (.cells #[.int .i64 0, .int .i64 0, .int .i64 0, .int .i64 0, .int .i64 0, .int .i64 0, .int .i64 0, .int .i64 0, .int .i64 0, .int .i64 0, .int .i64 0, .int .i64 0, .int .i64 0, .int .i64 0, .int .i64 0, .int .i64 0, .int .i64 0] t))) := fun t => hW1.places lens t
      clear hW1 hW
      go_wp2_with (refine wpList_load_mid rfl 75 (.tmp 27) rfl (w.heap.size + 1) 0 rfl L _ (HRg.out _) Tryd.underlying75 rfl HI.out ?_)
      go_loopw [7, 8, 29] (fun _ _ i wr => ∃ k : Nat, k ≤ 16 ∧ i = .int .i64 k ∧ MkW w (cnL lens) (plI lens k) [] (.slice none 0 0) 3 wr) (fun _ _ i _ => 16 - (intOf i).toNat)
      case atStart => exact ⟨0, by omega, rfl, HW1.out _⟩
      case round =>
        clear HW1 HRg c0 f0 hsz hk hlt
        rename_i wr0
        obtain ⟨k, hk, rfl, hW⟩ := hrel
        by_cases hlt : k < 16
        · have hlt' : (k : Int) < 16 := by omega
          have hk17 : (k : Int) < 17 := by omega
          have hk18 : (k : Int) + 1 < 17 := by omega
          have hix := index_ints Tryd.underlying75 L k (.int .i64 (cn lens k : Int)) hlt (by rw [← HLL.out]; exact cntL_get lens k hlt)
          obtain ⟨pk, pf⟩ := hW.pb.at k _ (plI_get lens k k (by omega))
          obtain ⟨pk2, pf2⟩ := hW.pb.at (k + 1) _ (plI_get lens k (k + 1) (by omega))
          rw [if_pos (Nat.le_refl _)] at pk
          have h1 := off_le lens (k - 1)
          have h2 := cn_le lens k
          obtain ⟨O, HO⟩ : ∃ O, Hid (off lens (k - 1) = O) := ⟨_, rfl⟩
          obtain ⟨C, HC⟩ : ∃ C, Hid (cn lens k = C) := ⟨_, rfl⟩
          have hW2 := hW.setP (k + 1) (off lens (k - 1) + cn lens k) (by rw [plI_len]; omega)
          rw [plI_step lens k hlt, HO.out, HC.out] at hW2
          rw [HO.out] at pk h1
          rw [HC.out] at hix h2
          have HW2 : Hid (MkW w (cnL lens) (plI lens (k + 1)) [] (.slice none 0 0) 3 (wr.setCell ⟨w.heap.size + 2, k + 1, none⟩ (.int .i64 ((O + C : Nat) : Int)))) := hW2
          clear hW2 hW
          go_wp2
          go_roundw
          case rel => exact ⟨k + 1, by omega, by go_num, HW2.out⟩
          case measure => simp [intOf]; omega
        · have hlt16 : ¬ (k : Int) < 16 := by omega
          have HK16 : Hid (k = 16) := by show _ = _; omega
          rw [HK16.out] at hW
          clear hlt hk
          obtain ⟨p16, pf16⟩ := hW.pb.at 16 _ (plI_get lens 16 16 (by omega))
          rw [if_pos (Nat.le_refl _)] at p16
          have hT := off_le lens 15
          obtain ⟨T, HT⟩ : ∃ T, Hid (off lens 15 = T) := ⟨_, rfl⟩
          replace p16 : wr.cell? ⟨w.heap.size + 2, 16, none⟩ = some (.int .i64 ((off lens 15 : Nat) : Int)) := p16
          rw [HT.out] at p16 hT
          have c16 := hW.ks
          have f16 := hW.kf
          have hsz := hW.siz
          obtain ⟨i0, hi, hz0, hz1, hz2⟩ := info_parts intInfo
          have hmk : (Instr.makeSlice 29 (.int .i64 (T : Int)) (.int .i64 (T : Int))).run Tryd.prog wr = .ok (.slice (some ⟨w.heap.size + 3, 0, none⟩) T T) (wr.alloc (.cells (madeCells #[.int .i64 0] T) 3)) := by
            have := run_make (P := Tryd.prog) wr 29 3 i0 (.int .i64 0) Tryd.underlying29 hi hz0 .i64 .i64 T T (by omega) (by omega) (by rw [hz2]; omega) (by omega)
            rw [this, hsz, hz1]; simp [Value.cells]
          have hW4 := hW.symbols T 3 (cnL_len lens)
          rw [plK_zero] at hW4
          have HW4 : Hid (MkW w (cnL lens) (plK lens 0) (List.replicate T 0) (.slice (some ⟨w.heap.size + 3, 0, none⟩) T T) 4 ((wr.alloc (.cells (madeCells #[.int .i64 0] T) 3)).setCell ⟨w.heap.size + 1, 16, none⟩ (.slice (some ⟨w.heap.size + 3, 0, none⟩) T T))) := hW4
          have c16' : (wr.alloc (.cells (madeCells #[.int .i64 0] T) 3)).cell? ⟨w.heap.size + 1, 16, none⟩ = some (.slice none 0 0) := by rw [(below_one wr _).cell (p := ⟨w.heap.size + 1, 16, none⟩) (show w.heap.size + 1 < _ by omega)]; exact c16
          have f16' : (wr.alloc (.cells (madeCells #[.int .i64 0] T) 3)).frozen? ⟨w.heap.size + 1, 16, none⟩ = false := by rw [(below_one wr _).frozen (p := ⟨w.heap.size + 1, 16, none⟩) (show w.heap.size + 1 < _ by omega)]; exact f16
          generalize hwm : wr.alloc (.cells (madeCells #[.int .i64 0] T) 3) = wm at *
          clear hwm hW4 hW hi hz0 hz1 hz2 c16 f16
          go_wp2
          go_loopw [9, 10, 48] (fun _ _ i wr => ∃ (k : Nat) (l : List Nat), k ≤ lens.length ∧ i = .int .i64 k ∧ MkW w (cnL lens) (plK lens k) l (.slice (some ⟨w.heap.size + 3, 0, none⟩) T T) 4 wr ∧ Hid (SortK lens k l)) (fun _ _ i _ => lens.length - (intOf i).toNat)
          case atStart => exact ⟨0, List.replicate T 0, by omega, rfl, HW4.out, ⟨by simp [HT.out], fun n _ j x hj => by simp [row] at hj⟩⟩
          case round =>
            clear HW4 c16' f16' hmk p16 pf16 hsz hlt16 HK16
            obtain ⟨k, l, hk, rfl, hW, HS⟩ := hrel
            have hll : l.length = T := by rw [HS.out.1]; exact HT.out
            by_cases hlt : k < lens.length
            · have hlt' : (k : Int) < (lens.length : Int) := by omega
              obtain ⟨n, HN⟩ : ∃ n, Hid (lens.getD k 0 = n ∧ lens[k]? = some n) := ⟨_, rfl, by rw [List.getD_eq_getElem?_getD, List.getElem?_eq_getElem hlt]; rfl⟩
              have hn15 : n ≤ 15 := h15 n (List.mem_of_getElem? HN.out.2)
              have hc := HL.out wr hW.bel k n HN.out.2
              by_cases hn0 : n = 0
              · have hpos : ¬ (0 : Int) < (n : Int) := by omega
                have HW2 : Hid (MkW w (cnL lens) (plK lens (k + 1)) l (.slice (some ⟨w.heap.size + 3, 0, none⟩) T T) 4 wr) := by rw [plK_same lens k (by rw [HN.out.1]; exact hn0)]; exact hW
                have HS2 : Hid (SortK lens (k + 1) l) := HS.out.same (by rw [HN.out.1]; exact hn0)
                clear hW
                go_wp2
                go_roundw
                case rel => exact ⟨k + 1, l, by omega, by go_num, HW2.out, HS2⟩
                case measure => simp [intOf]; omega
              · obtain ⟨m, HM⟩ : ∃ m, Hid (n = m + 1) := ⟨n - 1, by show _ = _; omega⟩
                have hpos : (0 : Int) < (n : Int) := by omega
                have hm15 : m < 15 := by have := HM.out; omega
                have HE : Hid (lens.getD k 0 = m + 1) := by rw [← HM.out]; exact HN.out.1
                have hroom := off_room lens k m hlt hm15 HE.out
                have hpk := plK_get lens k n (by omega)
                rw [if_neg (by omega), show n - 1 = m by have := HM.out; omega] at hpk
                obtain ⟨pk, pf⟩ := hW.pb.at n _ hpk
                have HP : Hid ((plK lens k).set n (off lens m + (row lens n k).length + 1) = plK lens (k + 1)) := by have := plK_step lens k m hm15 HE.out; rw [← HM.out] at this; exact this
                have HS2 := HS.out.put hlt hm15 HE.out
                rw [← HM.out] at hroom HS2
                obtain ⟨D, HD⟩ : ∃ D, Hid (off lens m + (row lens n k).length = D) := ⟨_, rfl⟩
                rw [HD.out] at pk hroom HP HS2
                have hDT : D < T := by rw [← HT.out]; exact hroom
                have hDT' : (D : Int) < (T : Int) := by omega
                have hn17 : (n : Int) < 17 := by omega
                obtain ⟨sk, sf⟩ := hW.sb.at D l[D] (List.getElem?_eq_getElem (by omega))
                have c16 := hW.ks
                have hW2 := (hW.drew 1).setS D k (by omega)
                obtain ⟨pk2, pf2⟩ := hW2.pb.at n _ (by rw [plK_get lens k n (by omega), if_neg (by omega), show n - 1 = m by have := HM.out; omega, HD.out])
                have hW3 := hW2.setP n (D + 1) (by rw [plK_len]; omega)
                rw [HP.out] at hW3
                have HS3 : Hid (SortK lens (k + 1) (l.set D k)) := HS2
                have HW3 : Hid (MkW w (cnL lens) (plK lens (k + 1)) (l.set D k) (.slice (some ⟨w.heap.size + 3, 0, none⟩) T T) 4 (((wr.drewN 1).setCell ⟨w.heap.size + 3, D, none⟩ (.int .i64 (k : Int))).setCell ⟨w.heap.size + 2, n, none⟩ (.int .i64 ((D + 1 : Nat) : Int)))) := hW3
                clear HS2 hW2 hW3 hW hn0
                go_wp2_with fail
                go_still_tail 7, (by kernel_rfl)
                go_wp2
                go_roundw
                case rel => exact ⟨k + 1, l.set D k, by omega, by go_num, HW3.out, HS3⟩
                case measure => simp [intOf]; omega
            · obtain rfl : k = lens.length := by omega
              obtain ⟨V, HV⟩ : ∃ V, Hid (codeV lens (.slice (some ⟨w.heap.size + 3, 0, none⟩) T T) = V) := ⟨_, rfl⟩
              have hVl : V.length = 17 := by rw [← HV.out]; simp [codeV, cntL_len]
              have HR : Hid (wr.rangeAt (w.heap.size + 1) 0 V) := by
                intro j v hj
                rw [← HV.out, codeV] at hj
                rw [Nat.zero_add]
                rcases Nat.lt_or_ge j 16 with h | h
                · rw [List.getElem?_append_left (by rw [cntL_len]; exact h), cntL_get lens j h] at hj
                  injection hj with hj
                  rw [← hj]; exact hW.kb.cell j _ (cnL_get lens j h)
                · have hj16 : j = 16 := by
                    have := (List.getElem?_eq_some_iff.1 hj).1
                    simp [cntL_len] at this; omega
                  subst hj16
                  rw [List.getElem?_append_right (by rw [cntL_len]; omega), cntL_len] at hj
                  simp at hj
                  rw [← hj]; exact hW.ks
              have HIA : Hid ((Tryd.prog.info? 77).map (·.size) = some V.length) := by show _ = _; rw [hVl]; exact codeInfo
              have HIB : Hid ((Tryd.prog.info? 77).map (·.size) = some V.toArray.size) := HIA.out
              have HLA : Hid (V.toArray.all (·.oneCell') = true) := all_oneCell_toArray (fun v hv => by
                rw [← HV.out, codeV] at hv
                rcases List.mem_append.1 hv with hv | hv
                · obtain ⟨n, _, rfl⟩ := List.mem_map.1 hv
                  rfl
                · simp at hv; subst hv; rfl)
              have HTh : Hid (wr.there w.heap.size 0 V.toArray.size) := by show wr.there _ _ V.length; rw [hVl]; exact hW.res
              have HW : Hid (MkW w (cnL lens) (plK lens lens.length) l (.slice (some ⟨w.heap.size + 3, 0, none⟩) T T) 4 wr) := hW
              have HS' : Hid (Sorted lens l) := HS.out.done
              have HLT : Hid (l.length = T) := hll
              clear hW hVl
              go_wp2_with (first | refine wpList_load_mid rfl 77 (.tmp 3) rfl (w.heap.size + 1) 0 rfl V _ HR.out Tryd.underlying77 rfl HIA.out ?_ | refine wpList_store_mid rfl 77 (.tmp 2) (.tmp 68) rfl w.heap.size 0 V.toArray rfl rfl HTh.out HIB.out HLA.out ?_)
              refine bodyPost_ret (v := .agg V.toArray) (results_cell_mid rfl _ _ w.heap.size V _ rfl (rangeAt_put _ _ _ HTh.out) Tryd.underlying77 rfl HIA.out) rfl ⟨l, T, ?_, ?_, ?_, HS'.out, ?_⟩
              · rw [HLT.out, HV.out]
              · exact below_setCells _ (Nat.le_refl _) _ _ _ HW.out.bel
              · rw [size_setCells, HW.out.siz]; omega
              · intro j x hj
                rw [World.cell?_of_block (a := ⟨w.heap.size + 3, j, none⟩) (w := wr) (heap_setCells _ _ (by show w.heap.size + 3 ≠ w.heap.size; omega) _ _ _)]
                exact HW.out.sb.cell j x hj
end
end Go.Proofs.YtjilhneefbakhaaDoor.Inf
