/- digest.mix: the state behind one more block. -/
import Derived.Test.YtpboclnfjpofjaaDoorShaSpread
namespace Go.Proofs.YtpboclnfjpofjaaDoor.Sha
open Go.RowKit

/-- The program's two tables. -/
structure TabP (w : World) : Prop where
  rounds : ∀ i, i < 64 → w.cell? ⟨3, i, none⟩ = some (.int .u32 ((kTab.getD i 0 : Nat) : Int))
  start : ∀ i, i < 8 → w.cell? ⟨1, i, none⟩ = some (.int .u32 ((h0.list.getD i 0 : Nat) : Int))
theorem TabP.below {w w' : World} (h : TabP w) (hb : Below w.heap.size w w') : TabP w' where
  rounds := fun i hi => cell_below hb (h.rounds i hi)
  start := fun i hi => cell_below hb (h.start i hi)
def s8v (s : S8) : Value := .agg #[.int .u32 (s.a : Int), .int .u32 (s.b : Int), .int .u32 (s.c : Int), .int .u32 (s.d : Int), .int .u32 (s.e : Int), .int .u32 (s.f : Int), .int .u32 (s.g : Int), .int .u32 (s.h : Int)]
/-- An array by value, indexed. -/
theorem index_u32 (t n : Nat) (hu : Tryd.prog.underlying t = some (.array n 28)) (cs : Array Value) (k : Nat) (v : Value) (hk : k < n) (hc : cs[k]? = some v) (w : World) :
    (Instr.index t (.agg cs) (.int .i64 (k : Int))).run Tryd.prog w = .ok v w := by
  simp [Instr.index, run_underlying hu, asIntOf, part, Tryd.isAgg28, Tryd.sizeOf28, hc]
  intro h; omega
/-- The worlds of mix: the state's block, the result's, the words' block. -/
structure MixW (s : S8) (L : List Value) (C : Nat) (w wl : World) : Prop where
  bel : Below w.heap.size w wl
  st : ∀ j, j < 8 → wl.cell? ⟨w.heap.size, j, none⟩ = some (.int .u32 ((s.list.getD j 0 : Nat) : Int))
  fro : ∀ j, wl.frozen? ⟨w.heap.size, j, none⟩ = false
  res : wl.there (w.heap.size + 1) 0 8
  rng : wl.rangeAt C 0 L
  tab : TabP wl
theorem MixW.start (s : S8) (L : List Value) (w w1 : World) (hL : L.length = 64) (hT : TabP w)
    (hb : Below ((w.alloc (.cells #[.int .u32 (s.a : Int), .int .u32 (s.b : Int), .int .u32 (s.c : Int), .int .u32 (s.d : Int), .int .u32 (s.e : Int), .int .u32 (s.f : Int), .int .u32 (s.g : Int), .int .u32 (s.h : Int)] 29)).alloc (.cells (Array.replicate 8 (.int .u32 0)) 29)).heap.size
      ((w.alloc (.cells #[.int .u32 (s.a : Int), .int .u32 (s.b : Int), .int .u32 (s.c : Int), .int .u32 (s.d : Int), .int .u32 (s.e : Int), .int .u32 (s.f : Int), .int .u32 (s.g : Int), .int .u32 (s.h : Int)] 29)).alloc (.cells (Array.replicate 8 (.int .u32 0)) 29)) w1) :
    MixW s L w1.heap.size w ((w1.alloc (.cells (Array.replicate 64 (.int .u32 0)) 37)).setCells w1.heap.size 0 L) := by
  obtain ⟨W2, hW2⟩ : ∃ W2, ((w.alloc (.cells #[.int .u32 (s.a : Int), .int .u32 (s.b : Int), .int .u32 (s.c : Int), .int .u32 (s.d : Int), .int .u32 (s.e : Int), .int .u32 (s.f : Int), .int .u32 (s.g : Int), .int .u32 (s.h : Int)] 29)).alloc (.cells (Array.replicate 8 (.int .u32 0)) 29)) = W2 := ⟨_, rfl⟩
  rw [hW2] at hb
  have hsz : W2.heap.size = w.heap.size + 2 := by rw [← hW2]; simp
  have b0 : Below w.heap.size w W2 := by rw [← hW2]; exact (below_one w _).alloc (by simp) _
  have b1 : Below W2.heap.size W2 ((w1.alloc (.cells (Array.replicate 64 (.int .u32 0)) 37)).setCells w1.heap.size 0 L) :=
    below_setCells _ hb.size _ _ _ (hb.alloc hb.size _)
  have c0 : ∀ j, j < 8 → W2.cell? ⟨w.heap.size, j, none⟩ = some (.int .u32 ((s.list.getD j 0 : Nat) : Int)) := by
    intro j hj
    rw [← hW2, World.cell?_alloc_past _ _ _ (by simp), World.cell?_alloc_at _ _ _ _ rfl]
    match j, hj with
    | 0, _ => rfl
    | 1, _ => rfl
    | 2, _ => rfl
    | 3, _ => rfl
    | 4, _ => rfl
    | 5, _ => rfl
    | 6, _ => rfl
    | 7, _ => rfl
  refine ⟨b0.trans (b1.mono (by omega)), fun j hj => ?_, fun j => ?_, fun j hj => ?_, ?_, (hT.below b0).below b1⟩
  · rw [b1.cell (p := ⟨w.heap.size, j, none⟩) (by show w.heap.size < _; omega)]; exact c0 j hj
  · rw [b1.frozen (p := ⟨w.heap.size, j, none⟩) (by show w.heap.size < _; omega), ← hW2, World.frozen?_alloc_past _ _ _ (by simp), World.frozen?_alloc_at _ _ _ _ rfl]
  · rw [b1.cell (p := ⟨w.heap.size + 1, 0 + j, none⟩) (by show w.heap.size + 1 < _; omega), b1.frozen (p := ⟨w.heap.size + 1, 0 + j, none⟩) (by show w.heap.size + 1 < _; omega), ← hW2, World.cell?_alloc_at _ _ _ _ (by simp), World.frozen?_alloc_at _ _ _ _ (by simp)]
    simp; omega
  · refine rangeAt_put _ _ _ (fun j hj => ?_)
    rw [World.cell?_alloc_at _ _ _ _ rfl, World.frozen?_alloc_at _ _ _ _ rfl]
    simp; omega
theorem MixW.drew {s : S8} {L : List Value} {C : Nat} {w wl : World} (h : MixW s L C w wl) (n : Nat) : MixW s L C w (wl.drewN n) where
  bel := h.bel.trans ((below_drewN n).mono h.bel.size)
  st := h.st
  fro := h.fro
  res := h.res
  rng := h.rng
  tab := h.tab.below (below_drewN n)
/-- The worlds of mix' second loop. -/
structure FinW (s t : S8) (k : Nat) (w wl : World) : Prop where
  bel : Below w.heap.size w wl
  st : ∀ j, j < 8 → wl.cell? ⟨w.heap.size, j, none⟩ = some (.int .u32 ((if j < k then (s.list.getD j 0 + t.list.getD j 0) % 4294967296 else s.list.getD j 0 : Nat) : Int))
  fro : ∀ j, wl.frozen? ⟨w.heap.size, j, none⟩ = false
  res : wl.there (w.heap.size + 1) 0 8
theorem FinW.start {s t : S8} {L : List Value} {C : Nat} {w wl : World} (h : MixW s L C w wl) : FinW s t 0 w wl where
  bel := h.bel
  st := fun j hj => by rw [if_neg (by omega)]; exact h.st j hj
  fro := h.fro
  res := h.res
theorem FinW.put {s t : S8} {k : Nat} {w wl : World} (h : FinW s t k w wl) (hk : k < 8) : FinW s t (k + 1) w (wl.setCell ⟨w.heap.size, k, none⟩ (.int .u32 (((s.list.getD k 0 + t.list.getD k 0) % 4294967296 : Nat) : Int))) where
  bel := h.bel.setCell (p := ⟨w.heap.size, k, none⟩) (Nat.le_refl _) _
  st := by
    intro j hj
    by_cases e : j = k
    · subst e
      rw [World.cell?_setCell_same _ _ _ (h.st j hj), if_pos (by omega)]
    · have hne : (⟨w.heap.size, k, none⟩ : Addr) ≠ ⟨w.heap.size, j, none⟩ := by intro e'; injection e' with _ e1; omega
      rw [World.cell?_setCell_other _ _ _ _ hne, h.st j hj]
      by_cases e2 : j < k
      · rw [if_pos e2, if_pos (by omega)]
      · rw [if_neg e2, if_neg (by omega)]
  fro := by intro j; rw [World.frozen?_setCell]; exact h.fro j
  res := by
    intro j hj
    have hne : (⟨w.heap.size, k, none⟩ : Addr) ≠ ⟨w.heap.size + 1, 0 + j, none⟩ := by intro e'; injection e' with e1; omega
    rw [World.cell?_setCell_other _ _ _ _ hne, World.frozen?_setCell]
    exact h.res j hj
theorem info8 : (Tryd.prog.info? 29).map (·.size) = some 8 := by kernel_rfl
set_option maxRecDepth 100000 in
set_option maxHeartbeats 4000000 in
/-- The walk of mix, whatever the words that spread answers. -/
theorem mix_core (s : S8) (b : ByteArray) (W : List Nat) (L : List Value) (N : Nat) (HN : Hid (N = 64)) (w : World) (HS : Hid s.Ok) (hT : TabP w)
    (hsp : ∀ w, Calls Tryd.prog 13 #[.string b] w fun e w' => e = .returned (.agg L.toArray) ∧ Below w.heap.size w w')
    (HLl : Hid (L.length = 64)) (HOne : Hid (∀ v ∈ L, v.oneCell' = true)) (HLW : Hid (∀ i, i < 64 → L.toArray[i]? = some (.int .u32 ((W.getD i 0 : Nat) : Int)))) :
    Calls Tryd.prog 8 #[s8v s, .string b] w fun e w' => e = .returned (s8v (add8 s (rnds W s N))) ∧ Below w.heap.size w w' := by
  have HIA : Hid ((Tryd.prog.info? 37).map (·.size) = some L.toArray.size) := by show _ = _; rw [show L.toArray.size = 64 by simp [HLl.out]]; exact info64
  have HLA : Hid (L.toArray.all (·.oneCell') = true) := all_oneCell_toArray HOne.out
  unfold s8v
  go_enter Tryd.func8, Tryd.ntmps8
  go_wp2_with fail
  refine (hsp _).mono ?_
  rintro e w1 ⟨rfl, hb1⟩
  clear hsp
  have HTh : Hid ((w1.alloc (.cells (Array.replicate 64 (.int .u32 0)) 37)).there w1.heap.size 0 L.toArray.size) := by
    intro j hj
    have hj : j < 64 := by simpa [HLl.out] using hj
    rw [World.cell?_alloc_at _ _ _ _ rfl, World.frozen?_alloc_at _ _ _ _ rfl]
    simp; omega
  have hM := MixW.start s L w w1 HLl.out hT hb1
  go_wp2_with (refine wpList_store_mid rfl 37 (.tmp 5) (.tmp 23) rfl w1.heap.size 0 L.toArray rfl rfl HTh.out HIA.out HLA.out ?_)
  clear HTh hb1 hT
  generalize hwl : World.setCells _ _ _ _ = wl
  have hM : MixW s L w1.heap.size w wl := by rw [← hwl]; exact hM
  clear hwl
  have c0 := hM.st 0 (by decide)
  have c1 := hM.st 1 (by decide)
  have c2 := hM.st 2 (by decide)
  have c3 := hM.st 3 (by decide)
  have c4 := hM.st 4 (by decide)
  have c5 := hM.st 5 (by decide)
  have c6 := hM.st 6 (by decide)
  have c7 := hM.st 7 (by decide)
  simp only [S8.list, List.getD_cons_zero, List.getD_cons_succ] at c0 c1 c2 c3 c4 c5 c6 c7
  generalize w1.heap.size = C at *
  go_quiet (fail)
  have hM2 := hM.drew nq
  clear c0 c1 c2 c3 c4 c5 c6 c7 hM
  generalize wl.drewN nq = wl at *
  have HR : Hid (wl.rangeAt C 0 L) := hM2.rng
  have HM2 : Hid (MixW s L C w wl) := hM2
  clear hM2
  have HIL : Hid ((Tryd.prog.info? 37).map (·.size) = some L.length) := HIA
  go_wp2_with (refine wpList_load_mid rfl 37 (.tmp 5) rfl C 0 rfl L _ HR.out Tryd.underlying37 rfl HIL.out ?_)
  go_loop [41, 6, 7, 8, 9, 10, 11, 12, 13] (fun i a b c d e f g h => ∃ (k : Nat) (t : S8), k ≤ 64 ∧ i = .int .i64 k ∧ a = .int .u32 (t.a : Int) ∧ b = .int .u32 (t.b : Int) ∧ c = .int .u32 (t.c : Int) ∧ d = .int .u32 (t.d : Int) ∧ e = .int .u32 (t.e : Int) ∧ f = .int .u32 (t.f : Int) ∧ g = .int .u32 (t.g : Int) ∧ h = .int .u32 (t.h : Int) ∧ Hid (t = rnds W s k)) (fun i _ _ _ _ _ _ _ _ => 64 - (intOf i).toNat)
  case atStart => exact ⟨0, s, by omega, rfl, rfl, rfl, rfl, rfl, rfl, rfl, rfl, rfl, rfl⟩
  case round =>
    obtain ⟨k, t, hk, rfl, rfl, rfl, rfl, rfl, rfl, rfl, rfl, rfl, HX⟩ := hrel
    have hok : t.Ok := by rw [HX.out]; exact rnds_ok _ HS.out _
    have HOK : Hid t.Ok := hok
    by_cases hlt : k < 64
    · obtain ⟨x, HXk⟩ : ∃ x, Hid (W.getD k 0 = x) := ⟨_, rfl⟩
      obtain ⟨y, HYk⟩ : ∃ y, Hid (kTab.getD k 0 = y) := ⟨_, rfl⟩
      have hx : L.toArray[k]? = some (.int .u32 (x : Int)) := by rw [← HXk.out]; exact HLW.out k hlt
      have hy : wl.cell? ⟨3, k, none⟩ = some (.int .u32 (y : Int)) := by rw [← HYk.out]; exact HM2.out.tab.rounds k hlt
      have hk64 : (k : Int) < 64 := by omega
      clear hok
      obtain ⟨B0, hB0, HB0⟩ : ∃ B0 : Nat, bits .xor .u32 (bits .xor .u32 ((ror t.a 2 : Nat) : Int) ((ror t.a 13 : Nat) : Int)) ((ror t.a 22 : Nat) : Int) = (B0 : Int) ∧ Hid (B0 = bg0 t.a) := ⟨_, bg0_u32 HOK.out.a, rfl⟩
      obtain ⟨Ch, hCh, HCh⟩ : ∃ Ch : Nat, bits .xor .u32 (bits .and .u32 (t.e : Int) (t.f : Int)) (bits .and .u32 (bits .xor .u32 IntKind.u32.max (t.e : Int)) (t.g : Int)) = (Ch : Int) ∧ Hid (Ch = chN t.e t.f t.g) := ⟨_, ch_u32 HOK.out.e HOK.out.f HOK.out.g, rfl⟩
      obtain ⟨Mj, hMj, HMj⟩ : ∃ Mj : Nat, bits .xor .u32 (bits .xor .u32 (bits .and .u32 (t.a : Int) (t.b : Int)) (bits .and .u32 (t.a : Int) (t.c : Int))) (bits .and .u32 (t.b : Int) (t.c : Int)) = (Mj : Int) ∧ Hid (Mj = majN t.a t.b t.c) := ⟨_, maj_u32 HOK.out.a HOK.out.b HOK.out.c, rfl⟩
      obtain ⟨B1, hB1, HB1⟩ : ∃ B1 : Nat, bits .xor .u32 (bits .xor .u32 ((ror t.e 6 : Nat) : Int) ((ror t.e 11 : Nat) : Int)) ((ror t.e 25 : Nat) : Int) = (B1 : Int) ∧ Hid (B1 = bg1 t.e) := ⟨_, bg1_u32 HOK.out.e, rfl⟩
      have hix : ∀ wx, (Instr.index 37 (.agg L.toArray) (.int .i64 (k : Int))).run Tryd.prog wx = .ok (.int .u32 (x : Int)) wx := fun wx => index_u32 _ 64 Tryd.underlying37 _ k _ hlt hx wx
      go_wp2_with fail
      refine (rol t.e 6 (-6) _ HOK.out.e (by decide) (by decide) (by decide)).mono ?_
      rintro e w' ⟨rfl, rfl⟩
      go_wp2_with fail
      refine (rol t.e 11 (-11) _ HOK.out.e (by decide) (by decide) (by decide)).mono ?_
      rintro e w' ⟨rfl, rfl⟩
      go_wp2_with fail
      refine (rol t.e 25 (-25) _ HOK.out.e (by decide) (by decide) (by decide)).mono ?_
      rintro e w' ⟨rfl, rfl⟩
      go_wp2_with fail
      refine (rol t.a 2 (-2) _ HOK.out.a (by decide) (by decide) (by decide)).mono ?_
      rintro e w' ⟨rfl, rfl⟩
      go_wp2_with fail
      refine (rol t.a 13 (-13) _ HOK.out.a (by decide) (by decide) (by decide)).mono ?_
      rintro e w' ⟨rfl, rfl⟩
      go_wp2_with fail

      refine (rol t.a 22 (-22) _ HOK.out.a (by decide) (by decide) (by decide)).mono ?_
      rintro e w' ⟨rfl, rfl⟩
      go_wp2
      go_round
      case rel =>
        refine ⟨k + 1, step y x t, by omega, by go_num, ?_, rfl, rfl, rfl, ?_, rfl, rfl, rfl, ?_⟩
        · refine congrArg (Value.int .u32) ?_
          have e : t1N y x t = t.h + B1 + Ch + y + x := by unfold t1N; rw [HB1.out, HCh.out]
          have e2 : (step y x t).a = (t1N y x t + B0 + Mj) % 4294967296 := by rw [HB0.out, HMj.out]; rfl
          rw [e2, e]; omega
        · refine congrArg (Value.int .u32) ?_
          have e : t1N y x t = t.h + B1 + Ch + y + x := by unfold t1N; rw [HB1.out, HCh.out]
          have e2 : (step y x t).e = (t.d + t1N y x t) % 4294967296 := rfl
          rw [e2, e]; omega
        · show step y x t = rnds W s (k + 1)
          rw [rnds, ← HX.out, HXk.out, HYk.out]
      case measure => simp [intOf]; omega
    · have HT : Hid (t = rnds W s N) := by show _ = _; rw [HX.out, HN.out, show k = 64 by omega]
      have hF : FinW s t 0 w wl := FinW.start HM2.out
      clear HX HR HM2
      go_wp2
      go_loopw [115] (fun i wr => ∃ j : Nat, j ≤ 8 ∧ i = .int .i64 j ∧ FinW s t j w wr) (fun i _ => 8 - (intOf i).toNat)
      case atStart => exact ⟨0, by omega, rfl, hF⟩
      case round =>
        clear hF
        obtain ⟨j, hj, rfl, hF⟩ := hrel
        by_cases hlt8 : j < 8
        · have hc : (#[Value.int .u32 (t.a : Int), Value.int .u32 (t.b : Int), Value.int .u32 (t.c : Int), Value.int .u32 (t.d : Int), Value.int .u32 (t.e : Int), Value.int .u32 (t.f : Int), Value.int .u32 (t.g : Int), Value.int .u32 (t.h : Int)] : Array Value)[j]? = some (.int .u32 ((t.list.getD j 0 : Nat) : Int)) := by
            match j, hlt8 with
            | 0, _ => rfl
            | 1, _ => rfl
            | 2, _ => rfl
            | 3, _ => rfl
            | 4, _ => rfl
            | 5, _ => rfl
            | 6, _ => rfl
            | 7, _ => rfl
          obtain ⟨x, HXk⟩ : ∃ x, Hid (t.list.getD j 0 = x) := ⟨_, rfl⟩
          obtain ⟨y, HYk⟩ : ∃ y, Hid (s.list.getD j 0 = y) := ⟨_, rfl⟩
          rw [HXk.out] at hc
          have hix : ∀ wx, (Instr.index 29 (.agg #[Value.int .u32 (t.a : Int), Value.int .u32 (t.b : Int), Value.int .u32 (t.c : Int), Value.int .u32 (t.d : Int), Value.int .u32 (t.e : Int), Value.int .u32 (t.f : Int), Value.int .u32 (t.g : Int), Value.int .u32 (t.h : Int)]) (.int .i64 (j : Int))).run Tryd.prog wx = .ok (.int .u32 (x : Int)) wx := fun wx => index_u32 _ 8 Tryd.underlying29 _ j _ hlt8 hc wx
          clear hc
          have hcell := hF.st j hlt8
          rw [if_neg (by omega), HYk.out] at hcell
          have hfro := hF.fro j
          have hj8 : (j : Int) < 8 := by omega
          go_wp2
          go_roundw
          case rel =>
            refine ⟨j + 1, by omega, by go_num, ?_⟩
            have hp := hF.put hlt8
            rw [HXk.out, HYk.out] at hp
            have e : (((y + x) % 4294967296 : Nat) : Int) = ((y : Int) + (x : Int)) % 4294967296 := by omega
            rw [e] at hp
            exact hp
          case measure => simp [intOf]; omega
        · obtain ⟨R, HRl, HRs⟩ : ∃ R : List Value, Hid (R.length = 8) ∧ Hid (R = (add8 s t).list.map fun n : Nat => Value.int .u32 (n : Int)) := ⟨(add8 s t).list.map fun n : Nat => Value.int .u32 (n : Int), by show _ = _; simp [S8.list], rfl⟩
          have HRg : Hid (wr.rangeAt w.heap.size 0 R) := by
            intro i v hi
            have hi8 : i < 8 := by rw [← HRl.out]; exact (List.getElem?_eq_some_iff.1 hi).1
            rw [Nat.zero_add, hF.st i hi8, if_pos (by omega), ← hi, HRs.out]
            match i, hi8 with
            | 0, _ => rfl
            | 1, _ => rfl
            | 2, _ => rfl
            | 3, _ => rfl
            | 4, _ => rfl
            | 5, _ => rfl
            | 6, _ => rfl
            | 7, _ => rfl
          have HI8 : Hid ((Tryd.prog.info? 29).map (·.size) = some R.toArray.size) := by show _ = _; rw [show R.toArray.size = 8 by simp [HRl.out]]; exact info8
          have HI8' : Hid ((Tryd.prog.info? 29).map (·.size) = some R.length) := HI8
          have HO8 : Hid (R.toArray.all (·.oneCell') = true) := all_oneCell_toArray (fun v hv => by
            rw [HRs.out] at hv
            obtain ⟨n, _, rfl⟩ := List.mem_map.1 hv
            rfl)
          have HTh8 : Hid (wr.there (w.heap.size + 1) 0 R.toArray.size) := by
            show wr.there _ _ _
            rw [show R.toArray.size = 8 by simp [HRl.out]]; exact hF.res
          have HB := hF.bel
          clear hF
          go_wp2_with (first | refine wpList_load_mid rfl 29 (.tmp 2) rfl w.heap.size 0 rfl R _ HRg.out Tryd.underlying29 rfl HI8'.out ?_ | refine wpList_store_mid rfl 29 (.tmp 4) (.tmp 126) rfl (w.heap.size + 1) 0 R.toArray rfl rfl HTh8.out HI8.out HO8.out ?_)
          refine bodyPost_ret (v := .agg R.toArray) (results_cell_mid rfl _ _ (w.heap.size + 1) R _ rfl (rangeAt_put _ _ _ HTh8.out) Tryd.underlying29 rfl HI8'.out) rfl ⟨?_, ?_⟩
          · rw [HRs.out, ← HT.out]; rfl
          · exact below_setCells _ (by omega) _ _ _ HB
theorem mix_walk (s : S8) (b : ByteArray) (w : World) (hs : s.Ok) (hb : b.size = 64) (hT : TabP w) :
    Calls Tryd.prog 8 #[s8v s, .string b] w fun e w' => e = .returned (s8v (comp s b.data.toList)) ∧ Below w.heap.size w w' :=
  mix_core s b (sch b.data.toList 64) ((sch b.data.toList 64).map fun n : Nat => Value.int .u32 (n : Int)) 64 rfl w hs hT (fun w => spread_walk b w hb)
    (by show _ = _; rw [List.length_map, sch_len])
    (fun v hv => by obtain ⟨n, _, rfl⟩ := List.mem_map.1 hv; rfl)
    (fun i hi => by have hl := sch_len b.data.toList 64; simp [hl, hi])
end Go.Proofs.YtpboclnfjpofjaaDoor.Sha
