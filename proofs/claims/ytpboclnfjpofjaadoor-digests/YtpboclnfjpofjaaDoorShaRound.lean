/- The document's own round: all rounds of a block. -/
import Derived.Test.YtpboclnfjpofjaaDoorShaSched
namespace Go.Proofs.YtpboclnfjpofjaaDoor.Sha
open Go.RowKit

/-- The document's two tables. -/
structure TabR (w : World) : Prop where
  rounds : ∀ i, i < 64 → w.cell? ⟨2, i, none⟩ = some (.int .i64 ((kTab.getD i 0 : Nat) : Int))
  start : ∀ i, i < 8 → w.cell? ⟨0, i, none⟩ = some (.int .i64 ((h0.list.getD i 0 : Nat) : Int))
theorem TabR.below {w w' : World} (h : TabR w) (hb : Below w.heap.size w w') : TabR w' where
  rounds := fun i hi => cell_below hb (h.rounds i hi)
  start := fun i hi => cell_below hb (h.start i hi)
/-- Numbers that lie in memory. -/
def NumsAt (w : World) (g : Nat) (l : List Nat) : Prop := ∀ j, j < l.length → w.cell? ⟨g, j, none⟩ = some (.int .i64 ((l.getD j 0 : Nat) : Int))
theorem NumsAt.below {w w' : World} {g : Nat} {l : List Nat} (h : NumsAt w g l) (hb : Below w.heap.size w w') : NumsAt w' g l := fun j hj => cell_below hb (h j hj)
/-- The worlds of round's loops. -/
structure RW (s t : S8) (W : List Nat) (hb g gw : Nat) (w wr : World) : Prop where
  bel : Below w.heap.size w wr
  hh : NumsAt wr hb s.list
  vv : NumsAt wr g t.list
  ww : NumsAt wr gw W
  tab : TabR wr
theorem RW.step {s t : S8} {W : List Nat} {hb g gw : Nat} {w wr w2 : World} (h : RW s t W hb g gw w wr) (hB : Below wr.heap.size wr w2) : RW s t W hb g gw w w2 where
  bel := h.bel.trans (hB.mono h.bel.size)
  hh := h.hh.below hB
  vv := h.vv.below hB
  ww := h.ww.below hB
  tab := h.tab.below hB
theorem RW.new {s t : S8} {W : List Nat} {hb g gw : Nat} {w wr : World} (h : RW s t W hb g gw w wr) (u : S8) :
    RW s u W hb wr.heap.size gw w ((wr.alloc (.cells #[.int .i64 (u.a : Int), .int .i64 (u.b : Int), .int .i64 (u.c : Int), .int .i64 (u.d : Int), .int .i64 (u.e : Int), .int .i64 (u.f : Int), .int .i64 (u.g : Int), .int .i64 (u.h : Int)] 3)).drew) := by
  have h2 := h.step (below_one wr (.cells #[.int .i64 (u.a : Int), .int .i64 (u.b : Int), .int .i64 (u.c : Int), .int .i64 (u.d : Int), .int .i64 (u.e : Int), .int .i64 (u.f : Int), .int .i64 (u.g : Int), .int .i64 (u.h : Int)] 3)).drew
  refine ⟨h2.bel, h2.hh, fun j hj => ?_, h2.ww, h2.tab⟩
  have hj : j < 8 := hj
  show (wr.alloc _).cell? _ = _
  rw [World.cell?_alloc_at _ _ _ _ rfl]
  match j, hj with
  | 0, _ => rfl
  | 1, _ => rfl
  | 2, _ => rfl
  | 3, _ => rfl
  | 4, _ => rfl
  | 5, _ => rfl
  | 6, _ => rfl
  | 7, _ => rfl
theorem nums_of_own {w : World} {base g n cap : Nat} {l : List Nat} (h : OwnL i64v w base (.slice (some ⟨g, 0, none⟩) n cap) l) : NumsAt w g l := fun j hj => OwnL.cellAt h j hj
theorem s8_lt {s : S8} (h : s.Ok) (j : Nat) : s.list.getD j 0 < 4294967296 := by
  rw [List.getD_eq_getElem?_getD]
  cases e : s.list[j]? with
  | none => decide
  | some x => exact h.all x (List.mem_of_getElem? e)
theorem own_mono {w : World} {base base' : Nat} {v : Value} {l : List Nat} (h : OwnL i64v w base v l) (hb : base' ≤ base) : OwnL i64v w base' v l := by
  rcases h with h | ⟨g, cap, q1, q2, q3⟩
  · exact .inl h
  · exact .inr ⟨g, cap, q1, Nat.le_trans hb q2, q3⟩
theorem add8_take (s t : S8) (j : Nat) (hj : j < 8) : (add8 s t).list.take (j + 1) = (add8 s t).list.take j ++ [(s.list.getD j 0 + t.list.getD j 0) % 4294967296] := by
  match j, hj with
  | 0, _ => rfl
  | 1, _ => rfl
  | 2, _ => rfl
  | 3, _ => rfl
  | 4, _ => rfl
  | 5, _ => rfl
  | 6, _ => rfl
  | 7, _ => rfl
theorem turnI (x : Nat) (n : Int) (w : World) (hx : x < 4294967296) (h1 : 1 ≤ n) (h2 : n ≤ 31) :
    Calls Tryd.prog 12 #[.int .i64 (x : Int), .int .i64 n] w fun e w' => e = .returned (.int .i64 ((ror x n.toNat : Nat) : Int)) ∧ ∃ m, w' = w.drewN m := by
  have h := turnN x n.toNat w hx (by omega) (by omega)
  rw [show ((n.toNat : Nat) : Int) = n by omega] at h
  exact h
set_option maxRecDepth 100000 in
set_option maxHeartbeats 8000000 in
theorem round_core (s : S8) (W : List Nat) (N hb capH bb off capB : Nat) (HN : Hid (N = 64)) (HWl : Hid (W.length = 64 ∧ ∀ i, W.getD i 0 < 4294967296)) (w : World) (HS : Hid s.Ok) (hH : NumsAt w hb s.list) (hT : TabR w)
    (hsc : Calls Tryd.prog 11 #[.slice (some ⟨bb, off, none⟩) 64 capB] w fun e w' => ∃ v, e = .returned v ∧ OwnL i64v w' w.heap.size v W ∧ Below w.heap.size w w') :
    Calls Tryd.prog 7 #[.slice (some ⟨hb, 0, none⟩) 8 capH, .slice (some ⟨bb, off, none⟩) 64 capB] w fun e w' => ∃ v, e = .returned v ∧ OwnL i64v w' w.heap.size v (add8 s (rnds W s N)).list ∧ Below w.heap.size w w' := by
  obtain ⟨i0, hi, hz0, hz1, hz2⟩ := info_parts i64Info
  go_enter Tryd.func7, Tryd.ntmps7
  go_wp2_with fail
  refine hsc.mono ?_
  rintro e w1 ⟨vw, rfl, how, hb1⟩
  clear hsc
  obtain ⟨gw, cw, hvw⟩ := Own.form how (by intro h; have h2 := HWl.out.1; rw [List.map_eq_nil_iff.1 h] at h2; simp at h2)
  rw [List.length_map, HWl.out.1] at hvw
  subst hvw
  have hH1 := hH.below hb1
  have HNews : Hid (∀ j u, (s.list.map i64v)[j]? = some u → w1.cell? ((⟨hb, 0, none⟩ : Addr).add j) = some u) := fun j u hj => by
    have hj8 : j < s.list.length := by have := (List.getElem?_eq_some_iff.1 hj).1; simpa using this
    rw [Addr.add_lit, Nat.zero_add, hH1 j hj8]
    rw [← hj]; simp [hj8, i64v]
  obtain ⟨NL, HNL⟩ : ∃ NL, Hid (NL = s.list.map i64v) := ⟨_, rfl⟩
  rw [← HNL.out] at HNews
  have HNl : Hid (NL.length = 8) := by show _ = _; rw [HNL.out]; rfl
  have HN1 : Hid (∀ u ∈ NL, u.oneCell' = true) := by rw [HNL.out]; intro u hu; obtain ⟨n, _, rfl⟩ := List.mem_map.1 hu; rfl
  go_wp2_with (at_builtin; refine wpList_append_Own rfl _ _ 25 rfl w1.heap.size 3 i0 (.int .i64 0) 8 Tryd.underlying25 hi hz0 hz1 hz2 rfl (.slice none 0 0) [] rfl (Own.nil _ _) ⟨hb, 0, none⟩ 8 capH NL rfl HNl.out HNews.out HN1.out (by decide) (by unfold maxLen; simp) (by simp) (Nat.le_refl _) ?_)
  intro v1 w2 ho2a hb2
  have ho2 : OwnL i64v w2 w1.heap.size v1 s.list := by
    show Own _ _ _ _
    rw [← HNL.out]; simpa using ho2a
  clear ho2a
  obtain ⟨g, cg, hv1⟩ := Own.form ho2 (by simp [S8.list])
  have hv1 : v1 = .slice (some ⟨g, 0, none⟩) 8 cg := hv1
  subst hv1
  have hb2' : Below w1.heap.size w1 w2 := hb2
  have hRW : RW s s W hb g gw w w2 := ⟨hb1.trans (hb2'.mono hb1.size), hH1.below hb2', nums_of_own ho2, (nums_of_own how).below hb2', (hT.below hb1).below hb2'⟩
  clear hb2 hb2' ho2 how hb1 hH1 hH hT HNews HNl HN1 HNL NL
  go_wp2
  go_loopw [6, 7] (fun v i wr => ∃ (k g cg : Nat) (t : S8), k ≤ 64 ∧ i = .int .i64 k ∧ v = .slice (some ⟨g, 0, none⟩) 8 cg ∧ RW s t W hb g gw w wr ∧ Hid t.Ok ∧ Hid (t = rnds W s k)) (fun _ i _ => 64 - (intOf i).toNat)
  case atStart => exact ⟨0, g, cg, s, by omega, rfl, rfl, hRW, HS, rfl⟩
  case round =>
    clear hRW
    obtain ⟨k, g, cg, t, hk, rfl, rfl, hR, HOK, HX⟩ := hrel
    by_cases hlt : k < 64
    · obtain ⟨x, HXk⟩ : ∃ x, Hid (W.getD k 0 = x) := ⟨_, rfl⟩
      obtain ⟨y, HYk⟩ : ∃ y, Hid (kTab.getD k 0 = y) := ⟨_, rfl⟩
      have lx : x < 4294967296 := by rw [← HXk.out]; exact HWl.out.2 k
      have ly : y < 4294967296 := by rw [← HYk.out]; exact kTab_lt k
      obtain ⟨B0, hB0, HB0, lB0⟩ : ∃ B0 : Nat, bits .xor .i64 (bits .xor .i64 ((ror t.a 2 : Nat) : Int) ((ror t.a 13 : Nat) : Int)) ((ror t.a 22 : Nat) : Int) = (B0 : Int) ∧ Hid (B0 = bg0 t.a) ∧ B0 < 4294967296 := ⟨_, bg0_i64 HOK.out.a, rfl, bg0_lt HOK.out.a⟩
      obtain ⟨B1, hB1, HB1, lB1⟩ : ∃ B1 : Nat, bits .xor .i64 (bits .xor .i64 ((ror t.e 6 : Nat) : Int) ((ror t.e 11 : Nat) : Int)) ((ror t.e 25 : Nat) : Int) = (B1 : Int) ∧ Hid (B1 = bg1 t.e) ∧ B1 < 4294967296 := ⟨_, bg1_i64 HOK.out.e, rfl, bg1_lt HOK.out.e⟩
      obtain ⟨Ch, hCh, HCh, lCh⟩ : ∃ Ch : Nat, bits .xor .i64 (bits .and .i64 (t.e : Int) (t.f : Int)) (bits .and .i64 (4294967295 - (t.e : Int)) (t.g : Int)) = (Ch : Int) ∧ Hid (Ch = chN t.e t.f t.g) ∧ Ch < 4294967296 := ⟨_, ch_i64 HOK.out.e HOK.out.f HOK.out.g, rfl, chN_lt _ _ HOK.out.e⟩
      obtain ⟨Mj, hMj, HMj, lMj⟩ : ∃ Mj : Nat, bits .xor .i64 (bits .xor .i64 (bits .and .i64 (t.a : Int) (t.b : Int)) (bits .and .i64 (t.a : Int) (t.c : Int))) (bits .and .i64 (t.b : Int) (t.c : Int)) = (Mj : Int) ∧ Hid (Mj = majN t.a t.b t.c) ∧ Mj < 4294967296 := ⟨_, maj_i64 HOK.out.a HOK.out.b HOK.out.c, rfl, majN_lt _ HOK.out.a HOK.out.b⟩
      have lh := HOK.out.h
      have le := HOK.out.e
      have ld := HOK.out.d
      have c0 := hR.vv 0 (by show 0 < 8; decide)
      have c1 := hR.vv 1 (by show 1 < 8; decide)
      have c2 := hR.vv 2 (by show 2 < 8; decide)
      have c3 := hR.vv 3 (by show 3 < 8; decide)
      have c4 := hR.vv 4 (by show 4 < 8; decide)
      have c5 := hR.vv 5 (by show 5 < 8; decide)
      have c6 := hR.vv 6 (by show 6 < 8; decide)
      have c7 := hR.vv 7 (by show 7 < 8; decide)
      simp only [S8.list, List.getD_cons_zero, List.getD_cons_succ] at c0 c1 c2 c3 c4 c5 c6 c7
      have cy := hR.tab.rounds k hlt
      rw [HYk.out] at cy
      have cx := hR.ww k (by rw [HWl.out.1]; exact hlt)
      rw [HXk.out] at cx
      have hk64 : (k : Int) < 64 := by omega
      have HRh : Hid (RW s t W hb g gw w wr) := hR
      clear hR
      go_wp2_with fail
      go_quiet ((go_at_call 12; exact Calls.quiet_of (turnI t.e _ _ HOK.out.e (by decide) (by decide))))
      have hR1 := HRh.out.step (below_drewN nq)
      clear c0 c1 c2 c3 c4 c5 c6 c7 cx cy HRh
      generalize wr.drewN nq = wr at *
      clear nq
      have c0 := hR1.vv 0 (by show 0 < 8; decide)
      have c1 := hR1.vv 1 (by show 1 < 8; decide)
      have c2 := hR1.vv 2 (by show 2 < 8; decide)
      have c3 := hR1.vv 3 (by show 3 < 8; decide)
      have c4 := hR1.vv 4 (by show 4 < 8; decide)
      have c5 := hR1.vv 5 (by show 5 < 8; decide)
      have c6 := hR1.vv 6 (by show 6 < 8; decide)
      have c7 := hR1.vv 7 (by show 7 < 8; decide)
      simp only [S8.list, List.getD_cons_zero, List.getD_cons_succ] at c0 c1 c2 c3 c4 c5 c6 c7
      have cy := hR1.tab.rounds k hlt
      rw [HYk.out] at cy
      have cx := hR1.ww k (by rw [HWl.out.1]; exact hlt)
      rw [HXk.out] at cx
      have HRh : Hid (RW s t W hb g gw w wr) := hR1
      clear hR1
      go_wp2_with fail
      go_quiet (fail)
      have hR2 := HRh.out.step (below_drewN nq)
      clear c0 c1 c2 c3 c4 c5 c6 c7 cx cy HRh
      generalize wr.drewN nq = wr at *
      clear nq
      have c0 := hR2.vv 0 (by show 0 < 8; decide)
      have c1 := hR2.vv 1 (by show 1 < 8; decide)
      have c2 := hR2.vv 2 (by show 2 < 8; decide)
      have c3 := hR2.vv 3 (by show 3 < 8; decide)
      have c4 := hR2.vv 4 (by show 4 < 8; decide)
      have c5 := hR2.vv 5 (by show 5 < 8; decide)
      have c6 := hR2.vv 6 (by show 6 < 8; decide)
      have c7 := hR2.vv 7 (by show 7 < 8; decide)
      simp only [S8.list, List.getD_cons_zero, List.getD_cons_succ] at c0 c1 c2 c3 c4 c5 c6 c7
      have cy := hR2.tab.rounds k hlt
      rw [HYk.out] at cy
      have cx := hR2.ww k (by rw [HWl.out.1]; exact hlt)
      rw [HXk.out] at cx
      have HRh : Hid (RW s t W hb g gw w wr) := hR2
      clear hR2
      go_wp2_with fail
      go_quiet (fail)
      have hR3 := HRh.out.step (below_drewN nq)
      clear c0 c1 c2 c3 c4 c5 c6 c7 cx cy HRh
      generalize wr.drewN nq = wr at *
      clear nq
      have c0 := hR3.vv 0 (by show 0 < 8; decide)
      have c1 := hR3.vv 1 (by show 1 < 8; decide)
      have c2 := hR3.vv 2 (by show 2 < 8; decide)
      have c3 := hR3.vv 3 (by show 3 < 8; decide)
      have c4 := hR3.vv 4 (by show 4 < 8; decide)
      have c5 := hR3.vv 5 (by show 5 < 8; decide)
      have c6 := hR3.vv 6 (by show 6 < 8; decide)
      have c7 := hR3.vv 7 (by show 7 < 8; decide)
      simp only [S8.list, List.getD_cons_zero, List.getD_cons_succ] at c0 c1 c2 c3 c4 c5 c6 c7
      have cy := hR3.tab.rounds k hlt
      rw [HYk.out] at cy
      have cx := hR3.ww k (by rw [HWl.out.1]; exact hlt)
      rw [HXk.out] at cx
      have HRh : Hid (RW s t W hb g gw w wr) := hR3
      clear hR3
      go_wp2_with fail
      go_quiet ((go_at_call 12; exact Calls.quiet_of (turnI t.a _ _ HOK.out.a (by decide) (by decide))))
      have hR4 := HRh.out.step (below_drewN nq)
      clear c0 c1 c2 c3 c4 c5 c6 c7 cx cy HRh
      generalize wr.drewN nq = wr at *
      clear nq
      have c0 := hR4.vv 0 (by show 0 < 8; decide)
      have c1 := hR4.vv 1 (by show 1 < 8; decide)
      have c2 := hR4.vv 2 (by show 2 < 8; decide)
      have c3 := hR4.vv 3 (by show 3 < 8; decide)
      have c4 := hR4.vv 4 (by show 4 < 8; decide)
      have c5 := hR4.vv 5 (by show 5 < 8; decide)
      have c6 := hR4.vv 6 (by show 6 < 8; decide)
      have c7 := hR4.vv 7 (by show 7 < 8; decide)
      simp only [S8.list, List.getD_cons_zero, List.getD_cons_succ] at c0 c1 c2 c3 c4 c5 c6 c7
      have cy := hR4.tab.rounds k hlt
      rw [HYk.out] at cy
      have cx := hR4.ww k (by rw [HWl.out.1]; exact hlt)
      rw [HXk.out] at cx
      have HRh : Hid (RW s t W hb g gw w wr) := hR4
      clear hR4
      go_wp2_with fail
      go_quiet (fail)
      have hR5 := HRh.out.step (below_drewN nq)
      clear c0 c1 c2 c3 c4 c5 c6 c7 cx cy HRh
      generalize wr.drewN nq = wr at *
      clear nq
      have c0 := hR5.vv 0 (by show 0 < 8; decide)
      have c1 := hR5.vv 1 (by show 1 < 8; decide)
      have c2 := hR5.vv 2 (by show 2 < 8; decide)
      have c3 := hR5.vv 3 (by show 3 < 8; decide)
      have c4 := hR5.vv 4 (by show 4 < 8; decide)
      have c5 := hR5.vv 5 (by show 5 < 8; decide)
      have c6 := hR5.vv 6 (by show 6 < 8; decide)
      have c7 := hR5.vv 7 (by show 7 < 8; decide)
      simp only [S8.list, List.getD_cons_zero, List.getD_cons_succ] at c0 c1 c2 c3 c4 c5 c6 c7
      have cy := hR5.tab.rounds k hlt
      rw [HYk.out] at cy
      have cx := hR5.ww k (by rw [HWl.out.1]; exact hlt)
      rw [HXk.out] at cx
      have HRh : Hid (RW s t W hb g gw w wr) := hR5
      clear hR5
      go_wp2_with fail
      obtain ⟨T1, hT1, HT1, lT1⟩ : ∃ T1 : Nat, (t.h : Int) + (B1 : Int) + (Ch : Int) + (y : Int) + (x : Int) = (T1 : Int) ∧ Hid (T1 = t1N y x t) ∧ T1 < 21474836480 := ⟨t.h + B1 + Ch + y + x, by omega, by show _ = _; rw [t1N, HB1.out, HCh.out], by omega⟩
      rw [hT1]
      clear hT1
      obtain ⟨P1, p1, HP1⟩ : ∃ a : Nat, IntKind.i64.wrap ((T1 : Int) + (B0 : Int)) = (a : Int) ∧ Hid (a = T1 + B0) := ⟨_, by rw [show (T1 : Int) + (B0 : Int) = ((T1 + B0 : Nat) : Int) by omega]; exact wrap_i64_nat _ (by omega), rfl⟩
      have lP1 : P1 < 25769803776 := by have := HP1.out; omega
      obtain ⟨P2, p2, HP2⟩ : ∃ a : Nat, IntKind.i64.wrap ((P1 : Int) + (Mj : Int)) = (a : Int) ∧ Hid (a = P1 + Mj) := ⟨_, by rw [show (P1 : Int) + (Mj : Int) = ((P1 + Mj : Nat) : Int) by omega]; exact wrap_i64_nat _ (by omega), rfl⟩
      obtain ⟨na, p3, Hna⟩ : ∃ a : Nat, (P2 : Int).tmod 4294967296 = (a : Int) ∧ Hid (a = P2 % 4294967296) := ⟨P2 % 4294967296, by rw [Int.tmod_eq_emod_of_nonneg (by omega)]; omega, rfl⟩
      obtain ⟨P3, p4, HP3⟩ : ∃ a : Nat, IntKind.i64.wrap ((t.d : Int) + (T1 : Int)) = (a : Int) ∧ Hid (a = t.d + T1) := ⟨_, by rw [show (t.d : Int) + (T1 : Int) = ((t.d + T1 : Nat) : Int) by omega]; exact wrap_i64_nat _ (by omega), rfl⟩
      obtain ⟨ne, p5, Hne⟩ : ∃ a : Nat, (P3 : Int).tmod 4294967296 = (a : Int) ∧ Hid (a = P3 % 4294967296) := ⟨P3 % 4294967296, by rw [Int.tmod_eq_emod_of_nonneg (by omega)]; omega, rfl⟩
      have HU : Hid ((⟨na, t.a, t.b, t.c, ne, t.e, t.f, t.g⟩ : S8) = step y x t) := by
        show _ = _
        rw [step, ← HT1.out, ← HB0.out, ← HMj.out, Hna.out, HP2.out, HP1.out, Hne.out, HP3.out]
      go_region_held3 (fun w' => w'.cell? ⟨g, 0, none⟩ = some (.int .i64 (t.a : Int)) ∧ w'.cell? ⟨g, 1, none⟩ = some (.int .i64 (t.b : Int)) ∧ w'.cell? ⟨g, 2, none⟩ = some (.int .i64 (t.c : Int)) ∧ w'.cell? ⟨g, 3, none⟩ = some (.int .i64 (t.d : Int)) ∧ w'.cell? ⟨g, 4, none⟩ = some (.int .i64 (t.e : Int)) ∧ w'.cell? ⟨g, 5, none⟩ = some (.int .i64 (t.f : Int)) ∧ w'.cell? ⟨g, 6, none⟩ = some (.int .i64 (t.g : Int)))
        (go_keep) (fail)
      have hR6 := HRh.out.new ⟨na, t.a, t.b, t.c, ne, t.e, t.f, t.g⟩
      clear c0 c1 c2 c3 c4 c5 c6 c7 cx cy HRh
      go_wp2
      go_roundw
      case rel =>
        refine ⟨k + 1, wr.heap.size, 8, ⟨na, t.a, t.b, t.c, ne, t.e, t.f, t.g⟩, by omega, by go_num, rfl, hR6, ?_, ?_⟩
        · rw [HU.out]; exact step_ok _ _ HOK.out
        · show _ = _
          rw [HU.out, rnds, ← HX.out, HXk.out, HYk.out]
      case measure => simp [intOf]; omega
    · have HK : Hid (t = rnds W s N) := by show _ = _; rw [HX.out, HN.out, show k = 64 by omega]
      clear HX
      go_wp2
      obtain ⟨wl, Hwl⟩ : ∃ wl, Hid (wr = wl) := ⟨_, rfl⟩
      have HRh : Hid (RW s t W hb g gw w wl) := by rw [← Hwl.out]; exact hR
      clear hR
      go_loopw [13, 14] (fun v i wr => ∃ (j : Nat) (L : List Nat), j ≤ 8 ∧ i = .int .i64 j ∧ OwnL i64v wr wl.heap.size v L ∧ Below wl.heap.size wl wr ∧ Hid (L = (add8 s t).list.take j) ∧ Hid (L.length = j)) (fun _ i _ => 8 - (intOf i).toNat)
      case atStart => exact ⟨0, [], by omega, rfl, Own.nil _ _, by rw [Hwl.out]; exact Below.refl _ _, rfl, rfl⟩
      case round =>
        clear Hwl
        obtain ⟨j, L, hj, rfl, ho, hB, HL, HLl⟩ := hrel
        by_cases hlt8 : j < 8
        · obtain ⟨x, HXj⟩ : ∃ x, Hid (s.list.getD j 0 = x) := ⟨_, rfl⟩
          obtain ⟨y, HYj⟩ : ∃ y, Hid (t.list.getD j 0 = y) := ⟨_, rfl⟩
          have lx : x < 4294967296 := by rw [← HXj.out]; exact s8_lt HS.out j
          have ly : y < 4294967296 := by rw [← HYj.out]; exact s8_lt HOK.out j
          have cx0 := HRh.out.hh j (by show j < 8; exact hlt8)
          have cy0 := HRh.out.vv j (by show j < 8; exact hlt8)
          have lhb : hb < wl.heap.size := lt_of_cell cx0
          have lg : g < wl.heap.size := lt_of_cell cy0
          have cx := cell_below hB cx0
          have cy := cell_below hB cy0
          clear cx0 cy0
          rw [HXj.out] at cx; rw [HYj.out] at cy
          obtain ⟨P1, p1, HP1⟩ : ∃ a : Nat, IntKind.i64.wrap ((x : Int) + (y : Int)) = (a : Int) ∧ Hid (a = x + y) := ⟨_, by rw [show (x : Int) + (y : Int) = ((x + y : Nat) : Int) by omega]; exact wrap_i64_nat _ (by omega), rfl⟩
          obtain ⟨c, p3, Hc⟩ : ∃ a : Nat, (P1 : Int).tmod 4294967296 = (a : Int) ∧ Hid (a = P1 % 4294967296) := ⟨P1 % 4294967296, by rw [Int.tmod_eq_emod_of_nonneg (by omega)]; omega, rfl⟩
          have hj0 : (0 : Int) ≤ (j : Int) := by omega
          have hj8 : (j : Int) < 8 := by omega
          have hz := hB.size
          go_wp2_with fail
          go_region_held3 (fun w' => w'.cell? ⟨hb, j, none⟩ = some (.int .i64 (x : Int)) ∧ w'.cell? ⟨g, j, none⟩ = some (.int .i64 (y : Int)))
            (first | go_keep | (go_split_ands; exact ⟨(hb9.cell (p := ⟨hb, j, none⟩) lhb).trans (by assumption), (hb9.cell (p := ⟨g, j, none⟩) lg).trans (by assumption)⟩))
            ((refine step_append_one i64v i64v_one (by rfl) _ _ 25 (by rfl) wl.heap.size 3 i0 (.int .i64 0) 8 Tryd.underlying25 hi hz0 hz1 hz2 rfl _ L j HLl.out c (by rfl) (ho.step (below_one _ _).drew) wr.heap.size (by rfl) (by simp; rfl) (by omega) (by decide) (by simp; omega) ?_; intro g9 cap9 w9 ho9 hb9 HKeep))
          have hB9 : Below wl.heap.size wl w9 := ((hB.alloc hz _).drew).trans hb9
          have HC : Hid (L ++ [c] = (add8 s t).list.take (j + 1)) := by
            show _ = _
            rw [add8_take s t j hlt8, ← HL.out, HXj.out, HYj.out, Hc.out, HP1.out]
          clear HKeep
          go_wp2
          go_roundw
          case rel => exact ⟨j + 1, _, by omega, by go_num, ho9, hB9, HC, by show _ = _; rw [List.length_append, HLl.out]; rfl⟩
          case measure => simp [intOf]; omega
        · have HF : Hid (L = (add8 s (rnds W s N)).list) := by
            show _ = _
            rw [HL.out, ← HK.out, show j = 8 by omega]; rfl
          go_wp2
          go_ret
          refine ⟨_, rfl, ?_, HRh.out.bel.trans (hB.mono HRh.out.bel.size)⟩
          rw [← HF.out]
          exact own_mono ho HRh.out.bel.size
theorem round_walk (s : S8) (b : List UInt8) (hb capH bb off capB : Nat) (w : World) (hs : s.Ok) (hH : NumsAt w hb s.list) (hT : TabR w) (hbl : b.length = 64) (hBy : BytesAt w bb off b) (hbb : bb < w.heap.size) :
    Calls Tryd.prog 7 #[.slice (some ⟨hb, 0, none⟩) 8 capH, .slice (some ⟨bb, off, none⟩) 64 capB] w fun e w' => ∃ v, e = .returned v ∧ OwnL i64v w' w.heap.size v (comp s b).list ∧ Below w.heap.size w w' :=
  round_core s (sch b 64) 64 hb capH bb off capB rfl ⟨sch_len b 64, fun i => sch_getD b 64 i⟩ w hs hH hT (sched_walk b bb off capB w hbl hBy hbb)
end Go.Proofs.YtpboclnfjpofjaaDoor.Sha
