/- Replies: the program's Read. -/
import Derived.Test.YtmodongnganbfaaGreatDoorRqAToRqD
import Derived.Test.YtmodongnganbfaaGreatDoorRdW
namespace Go.Proofs.YtmodongnganbfaaGreatDoor.Rep
open Go.RowKit Go.Proofs.YtmodongnganbfaaGreatDoor Go.Proofs.YtmodongnganbfaaGreatDoor.Sha Go.Proofs.YtmodongnganbfaaGreatDoor.Inf
set_option maxHeartbeats 8000000 in
set_option maxRecDepth 100000 in
theorem replyRead_walk (rf : Bool) (ao : Option Addr) (n cap : Nat) (evs : List Event) (deadline limit : Int) (ad : Nat → Addr) (B : Nat) (mx : Int) (w : World) (hX : RepX ad B mx w) (hB : B ≤ w.heap.size) (hE : EvAt w ao evs) (hn : evs.length = n) (hnc : n ≤ cap) (hc2 : cap ≤ 9223372036854775807) (hd : ∀ e ∈ evs, e.data.length ≤ 140737488355328) (ht : ∀ e ∈ evs, -9223372036854775808 ≤ e.ticks ∧ e.ticks ≤ 9223372036854775807) :
    Calls Tryz.prog 9 #[.agg #[.bool rf, .slice ao n cap], .int .i64 deadline, .int .i64 limit] w fun e w' => e = .returned (encR (toldP (readP rf evs deadline limit))) ∧ Below w.heap.size w w' := by
  have eL : min (max limit 0) 4000 = ((lim limit : Nat) : Int) := by unfold lim; omega
  have eLl : lim limit ≤ 4000 := by unfold lim; omega
  have eD : min (max deadline 0) 100000 = ded deadline := rfl
  have eDl : 0 ≤ ded deadline ∧ ded deadline ≤ 100000 := by unfold ded; omega
  have HRd : Hid (readP rf evs deadline limit = goOn (lim limit) Mc.new ⟨rf, evs, [], ded deadline, 0⟩) := rfl
  obtain ⟨R, eR⟩ : ∃ R, readP rf evs deadline limit = R := ⟨_, rfl⟩
  have HR0 : Hid (goOn (lim limit) Mc.new ⟨rf, evs, [], ded deadline, 0⟩ = R) := by show _ = _; rw [← HRd.out, eR]
  rw [eR]
  obtain ⟨L, hL⟩ : ∃ L, lim limit = L := ⟨_, rfl⟩
  obtain ⟨D, hD⟩ : ∃ D, ded deadline = D := ⟨_, rfl⟩
  rw [hL] at eL eLl HR0
  rw [hD] at eD eDl HR0
  clear hL hD HRd eR
  obtain ⟨hD0, hD1⟩ := eDl
  have HN : Hid (RdPre w rf ao n cap evs D L (min (max deadline 0) 100000) (min (max limit 0) 4000) ((w.alloc (.cells #[.bool rf, .slice ao n cap] 24)).alloc (.cells #[.int .i64 0, .int .i64 0, .string ⟨#[]⟩, .string ⟨#[]⟩, .int .i64 0, .int .i64 0, .int .i64 0] 26))) := by
    show RdPre _ _ _ _ _ _ _ _ _ _ _
    rw [eL, eD]
    exact rdPre_new w rf ao n cap evs D L hE hn hnc hc2 hd ht hD0 hD1
  have HX : Hid (RepX ad B mx w) := hX
  clear hE hd ht hX hn hnc hc2 eL eD
  go_enter Tryz.func9, Tryz.ntmps9
  go_upto_region 1 with fail
  obtain ⟨w0, hw0⟩ : ∃ w0, (w.alloc (.cells #[.bool rf, .slice ao n cap] 24)).alloc (.cells #[.int .i64 0, .int .i64 0, .string ⟨#[]⟩, .string ⟨#[]⟩, .int .i64 0, .int .i64 0, .int .i64 0] 26) = w0 := ⟨_, rfl⟩
  obtain ⟨db, hdb⟩ : ∃ db, w.heap.size = db := ⟨_, rfl⟩
  have d0 : w0.cell? ⟨db, 0, none⟩ = some (.bool rf) := by
    rw [← hw0, ← hdb, World.cell?_alloc_lt _ _ _ (by simp)]; simp
  have d1 : w0.cell? ⟨db, 1, none⟩ = some (.slice ao n cap) := by
    rw [← hw0, ← hdb, World.cell?_alloc_lt _ _ _ (by simp)]; simp
  have dl : db < w0.heap.size := lt_of_cell d0
  have HP : Hid (RdPre w rf ao n cap evs D L (min (max deadline 0) 100000) (min (max limit 0) 4000) w0) := by
    show RdPre _ _ _ _ _ _ _ _ _ _ _
    rw [← hw0]
    exact HN.out
  rw [hw0, hdb]
  clear hw0 HN
  go_cut [7] from 8 (fun r7 wc => ∃ pm, r7 = .pointer (some ⟨pm, 0, none⟩) ∧ Hid (RdSt w rf evs D L pm wc))
  case first =>
    clear hdb HR0 HX
    refine wp_region_noPanic ?_
    refine wp_region_held_drew (S := (fun w' => w'.cell? ⟨db, 0, none⟩ = some (.bool rf) ∧ w'.cell? ⟨db, 1, none⟩ = some (.slice ao n cap))) (by kernel_rfl) (by go_keep) (fun hHeld => ?_)
    refine wpAnyH_take (i := 0) (v := .pointer (some ⟨db, 0, none⟩)) rfl (by kernel_rfl) (by kernel_rfl) (by kernel_rfl) (fun _ _ _ h => h) (Or.inl ⟨by rfl, fun w hSw => (by (try dsimp only at hSw); go_simp)⟩) (by assumption) ?_
    refine wpAnyH_take (i := 1) (v := .bool rf) rfl (by kernel_rfl) (by kernel_rfl) (by kernel_rfl) (fun _ _ _ h => h) (Or.inl ⟨by rfl, fun w hSw => (by (try dsimp only at hSw); go_simp)⟩) (by assumption) ?_
    refine wpAnyH_take (i := 2) (v := .pointer (some ⟨db, 1, none⟩)) rfl (by kernel_rfl) (by kernel_rfl) (by kernel_rfl) (fun _ _ _ h => h) (Or.inl ⟨by rfl, fun w hSw => (by (try dsimp only at hSw); go_simp)⟩) (by assumption) ?_
    refine wpAnyH_take (i := 3) (v := .slice ao n cap) rfl (by kernel_rfl) (by kernel_rfl) (by kernel_rfl) (fun _ _ _ h => h) (Or.inl ⟨by rfl, fun w hSw => (by (try dsimp only at hSw); go_simp)⟩) (by assumption) ?_
    refine wpAnyH_take (i := 4) (v := .int .i64 deadline) rfl (by kernel_rfl) (by kernel_rfl) (by kernel_rfl) (fun _ _ _ h => h) (Or.inl ⟨by rfl, fun w hSw => (by (try dsimp only at hSw); go_simp)⟩) (by assumption) ?_
    refine wpAnyH_take (i := 7) (v := .int .i64 limit) rfl (by kernel_rfl) (by kernel_rfl) (by kernel_rfl) (fun _ _ _ h => h) (Or.inl ⟨by rfl, fun w hSw => (by (try dsimp only at hSw); go_simp)⟩) (by assumption) ?_
    refine wpAnyH_ready (rs := [5, 10]) (by kernel_rfl) (by simp) ?_
    refine AllReadyH.cons rfl (fun K hK => ?_) ?_
    · go_simp
      refine (clamp_hid _ _ _).mono ?_
      rintro e w1 ⟨⟨x, rfl, Hx⟩, Hw1⟩
      have hSw1 : w1.cell? ⟨db, 0, none⟩ = some (.bool rf) ∧ w1.cell? ⟨db, 1, none⟩ = some (.slice ao n cap) := by rw [Hw1.out]; go_keep
      dsimp only
      refine hK.out _ _ hSw1 (fun hHeld => ?_)
      clear hK K
      refine wpAnyH_take (i := 6) (v := (.agg #[.bool rf, .slice ao n cap, .string ⟨#[]⟩, .int .i64 x, .int .i64 0])) rfl (by kernel_rfl) (by kernel_rfl) (by kernel_rfl) (fun _ _ _ h => h) (Or.inl ⟨by rfl, fun w hSw => (by (try dsimp only at hSw); go_simp)⟩) (by assumption) ?_
      refine wpAnyH_ready (rs := [8, 10]) (by kernel_rfl) (by simp) ?_
      refine AllReadyH.cons rfl (fun K hK => ?_) ?_
      · go_simp
        refine (clamp_hid _ _ _).mono ?_
        rintro e w2 ⟨⟨y, rfl, Hy⟩, Hw2⟩
        have hSw2 : w2.cell? ⟨db, 0, none⟩ = some (.bool rf) ∧ w2.cell? ⟨db, 1, none⟩ = some (.slice ao n cap) := by rw [Hw2.out]; go_keep
        dsimp only
        refine hK.out _ _ hSw2 (fun hHeld => ?_)
        clear hK K
        refine wpAnyH_take (i := 9) (v := (.agg #[.bool rf, .slice ao n cap, .string ⟨#[]⟩, .int .i64 x, .int .i64 0, .int .i64 y, .int .i64 0, .int .i64 0, .bool false, .int .i64 0, .bool false, .bool false, .string ⟨#[]⟩, .bool false, .int .i64 0, .int .i64 0, .int .i64 0, .slice none 0 0, .nilIface])) rfl (by kernel_rfl) (by kernel_rfl) (by kernel_rfl) (fun _ _ _ h => h) (Or.inl ⟨by rfl, fun w hSw => (by (try dsimp only at hSw); go_simp)⟩) (by assumption) ?_
        refine wpAnyH_ready (rs := [10]) (by kernel_rfl) (by simp) ?_
        refine AllReadyH.cons rfl (fun K hK => ?_) ?_
        · go_simp
          refine hK.out _ _ (by go_keep) (fun hHeld => ?_)
          clear hK K
          refine wpAnyH_ready (rs := [11]) (by kernel_rfl) (by simp) ?_
          refine AllReadyH.cons rfl (fun K hK => ?_) ?_
          · rw [if_pos (by rfl)]
            have hrr : Row (w2.alloc (.cells #[.bool false, .slice none 0 0, .string ⟨#[]⟩, .int .i64 0, .int .i64 0, .int .i64 0, .int .i64 0, .int .i64 0, .bool false, .int .i64 0, .bool false, .bool false, .string ⟨#[]⟩, .bool false, .int .i64 0, .int .i64 0, .int .i64 0, .slice none 0 0, .nilIface] 52)) w2.heap.size [.bool false, .slice none 0 0, .string ⟨#[]⟩, .int .i64 0, .int .i64 0, .int .i64 0, .int .i64 0, .int .i64 0, .bool false, .int .i64 0, .bool false, .bool false, .string ⟨#[]⟩, .bool false, .int .i64 0, .int .i64 0, .int .i64 0, .slice none 0 0, .nilIface] := prow_new w2 #[.bool false, .slice none 0 0, .string ⟨#[]⟩, .int .i64 0, .int .i64 0, .int .i64 0, .int .i64 0, .int .i64 0, .bool false, .int .i64 0, .bool false, .bool false, .string ⟨#[]⟩, .bool false, .int .i64 0, .int .i64 0, .int .i64 0, .slice none 0 0, .nilIface] 52 w2.heap.size rfl
            have hdb2 : db < w2.heap.size := by exact lt_of_cell hSw2.1
            refine wp_store_mid _ _ _ rfl w2.heap.size 0 #[.bool rf, .slice ao n cap, .string ⟨#[]⟩, .int .i64 x, .int .i64 0, .int .i64 y, .int .i64 0, .int .i64 0, .bool false, .int .i64 0, .bool false, .bool false, .string ⟨#[]⟩, .bool false, .int .i64 0, .int .i64 0, .int .i64 0, .slice none 0 0, .nilIface] rfl rfl (row_there hrr 19 rfl) (by kernel_rfl) (by kernel_rfl) ?_
            refine hK.out _ _ (keepS _ hdb2 hHeld) (fun _ => ?_)
            clear hK K
            refine wpAnyH_done (by kernel_rfl) ?_ _
            refine NoPanic.normal ?_
            go_wp2_with fail
            go_meet
            exact HP.out.finS w2.heap.size (by rw [Hw2.out, Hw1.out]; rfl) (by rw [Hw2.out, Hw1.out]; exact (Below.refl w0.heap.size w0).drew.alloc (Nat.le_refl _) _) hrr Hx Hy
          · exact AllReadyH.nil
        · exact AllReadyH.nil
      refine AllReadyH.cons rfl (fun K hK => ?_) ?_
      · go_simp
        refine hK.out _ _ (by go_keep) (fun hHeld => ?_)
        clear hK K
        refine wpAnyH_ready (rs := [8]) (by kernel_rfl) (by simp) ?_
        refine AllReadyH.cons rfl (fun K hK => ?_) ?_
        · go_simp
          refine (clamp_hid _ _ _).mono ?_
          rintro e w2 ⟨⟨y, rfl, Hy⟩, Hw2⟩
          have hSw2 : w2.cell? ⟨db, 0, none⟩ = some (.bool rf) ∧ w2.cell? ⟨db, 1, none⟩ = some (.slice ao n cap) := by rw [Hw2.out]; go_keep
          dsimp only
          refine hK.out _ _ hSw2 (fun hHeld => ?_)
          clear hK K
          refine wpAnyH_take (i := 9) (v := (.agg #[.bool rf, .slice ao n cap, .string ⟨#[]⟩, .int .i64 x, .int .i64 0, .int .i64 y, .int .i64 0, .int .i64 0, .bool false, .int .i64 0, .bool false, .bool false, .string ⟨#[]⟩, .bool false, .int .i64 0, .int .i64 0, .int .i64 0, .slice none 0 0, .nilIface])) rfl (by kernel_rfl) (by kernel_rfl) (by kernel_rfl) (fun _ _ _ h => h) (Or.inl ⟨by rfl, fun w hSw => (by (try dsimp only at hSw); go_simp)⟩) (by assumption) ?_
          refine wpAnyH_ready (rs := [11]) (by kernel_rfl) (by simp) ?_
          refine AllReadyH.cons rfl (fun K hK => ?_) ?_
          · rw [if_pos (by rfl)]
            have hrr : Row w2 w1.heap.size [.bool false, .slice none 0 0, .string ⟨#[]⟩, .int .i64 0, .int .i64 0, .int .i64 0, .int .i64 0, .int .i64 0, .bool false, .int .i64 0, .bool false, .bool false, .string ⟨#[]⟩, .bool false, .int .i64 0, .int .i64 0, .int .i64 0, .slice none 0 0, .nilIface] := rowC Hw2
            have hdb2 : db < w1.heap.size := by exact lt_of_cell hSw1.1
            refine wp_store_mid _ _ _ rfl w1.heap.size 0 #[.bool rf, .slice ao n cap, .string ⟨#[]⟩, .int .i64 x, .int .i64 0, .int .i64 y, .int .i64 0, .int .i64 0, .bool false, .int .i64 0, .bool false, .bool false, .string ⟨#[]⟩, .bool false, .int .i64 0, .int .i64 0, .int .i64 0, .slice none 0 0, .nilIface] rfl rfl (row_there hrr 19 rfl) (by kernel_rfl) (by kernel_rfl) ?_
            refine hK.out _ _ (keepS _ hdb2 hHeld) (fun _ => ?_)
            clear hK K
            refine wpAnyH_done (by kernel_rfl) ?_ _
            refine NoPanic.normal ?_
            go_wp2_with fail
            go_meet
            exact HP.out.finS w1.heap.size (by rw [Hw1.out]; rfl) (by rw [Hw2.out, Hw1.out]; exact (Below.refl w0.heap.size w0).drew.alloc (Nat.le_refl _) _) hrr Hx Hy
          · exact AllReadyH.nil
        · exact AllReadyH.nil
      · exact AllReadyH.nil
    refine AllReadyH.cons rfl (fun K hK => ?_) ?_
    · go_simp
      refine hK.out _ _ (by go_keep) (fun hHeld => ?_)
      clear hK K
      refine wpAnyH_ready (rs := [5]) (by kernel_rfl) (by simp) ?_
      refine AllReadyH.cons rfl (fun K hK => ?_) ?_
      · go_simp
        refine (clamp_hid _ _ _).mono ?_
        rintro e w1 ⟨⟨x, rfl, Hx⟩, Hw1⟩
        have hSw1 : w1.cell? ⟨db, 0, none⟩ = some (.bool rf) ∧ w1.cell? ⟨db, 1, none⟩ = some (.slice ao n cap) := by rw [Hw1.out]; go_keep
        dsimp only
        refine hK.out _ _ hSw1 (fun hHeld => ?_)
        clear hK K
        refine wpAnyH_take (i := 6) (v := (.agg #[.bool rf, .slice ao n cap, .string ⟨#[]⟩, .int .i64 x, .int .i64 0])) rfl (by kernel_rfl) (by kernel_rfl) (by kernel_rfl) (fun _ _ _ h => h) (Or.inl ⟨by rfl, fun w hSw => (by (try dsimp only at hSw); go_simp)⟩) (by assumption) ?_
        refine wpAnyH_ready (rs := [8]) (by kernel_rfl) (by simp) ?_
        refine AllReadyH.cons rfl (fun K hK => ?_) ?_
        · go_simp
          refine (clamp_hid _ _ _).mono ?_
          rintro e w2 ⟨⟨y, rfl, Hy⟩, Hw2⟩
          have hSw2 : w2.cell? ⟨db, 0, none⟩ = some (.bool rf) ∧ w2.cell? ⟨db, 1, none⟩ = some (.slice ao n cap) := by rw [Hw2.out]; go_keep
          dsimp only
          refine hK.out _ _ hSw2 (fun hHeld => ?_)
          clear hK K
          refine wpAnyH_take (i := 9) (v := (.agg #[.bool rf, .slice ao n cap, .string ⟨#[]⟩, .int .i64 x, .int .i64 0, .int .i64 y, .int .i64 0, .int .i64 0, .bool false, .int .i64 0, .bool false, .bool false, .string ⟨#[]⟩, .bool false, .int .i64 0, .int .i64 0, .int .i64 0, .slice none 0 0, .nilIface])) rfl (by kernel_rfl) (by kernel_rfl) (by kernel_rfl) (fun _ _ _ h => h) (Or.inl ⟨by rfl, fun w hSw => (by (try dsimp only at hSw); go_simp)⟩) (by assumption) ?_
          refine wpAnyH_ready (rs := [11]) (by kernel_rfl) (by simp) ?_
          refine AllReadyH.cons rfl (fun K hK => ?_) ?_
          · rw [if_pos (by rfl)]
            have hrr : Row w2 w0.heap.size [.bool false, .slice none 0 0, .string ⟨#[]⟩, .int .i64 0, .int .i64 0, .int .i64 0, .int .i64 0, .int .i64 0, .bool false, .int .i64 0, .bool false, .bool false, .string ⟨#[]⟩, .bool false, .int .i64 0, .int .i64 0, .int .i64 0, .slice none 0 0, .nilIface] := rowD Hw2 (rowB Hw1)
            have hdb2 : db < w0.heap.size := by exact dl
            refine wp_store_mid _ _ _ rfl w0.heap.size 0 #[.bool rf, .slice ao n cap, .string ⟨#[]⟩, .int .i64 x, .int .i64 0, .int .i64 y, .int .i64 0, .int .i64 0, .bool false, .int .i64 0, .bool false, .bool false, .string ⟨#[]⟩, .bool false, .int .i64 0, .int .i64 0, .int .i64 0, .slice none 0 0, .nilIface] rfl rfl (row_there hrr 19 rfl) (by kernel_rfl) (by kernel_rfl) ?_
            refine hK.out _ _ (keepS _ hdb2 hHeld) (fun _ => ?_)
            clear hK K
            refine wpAnyH_done (by kernel_rfl) ?_ _
            refine NoPanic.normal ?_
            go_wp2_with fail
            go_meet
            exact HP.out.finS w0.heap.size rfl (by rw [Hw2.out, Hw1.out]; exact ((Below.refl w0.heap.size w0).alloc (Nat.le_refl _) _).drew) hrr Hx Hy
          · exact AllReadyH.nil
        · exact AllReadyH.nil
      · exact AllReadyH.nil
    · exact AllReadyH.nil
  case rest =>
    obtain ⟨pm, rfl, HT⟩ := hcut
    have hlt := HT.out.lt
    have hBp : B ≤ pm := by omega
    have hXc := HX.out.keep (HT.out.bel.mono hB)
    have HC := run_walk pm L R (newPs rf evs D) ad B mx wc HT.out.mem hXc hBp rfl rfl (by omega) HR0.out
    have hlc : pm < wc.heap.size := HT.out.mem.lt
    clear hXc
    subst hdb
    go_wp2_with fail
    refine HC.mono ?_
    rintro e w2 ⟨⟨rfl, hE2⟩, hO2⟩
    have hb2 : Below pm wc w2 := only_ge_keeps hO2 (Nat.le_refl _) (Nat.le_of_lt hlc)
    have hW2 : RepW ad B w2 := (HX.out.keep (HT.out.bel.mono hB)).er.keep (hb2.mono hBp)
    have HC2 := tell_walk pm L B R ad w2 hE2 hW2
    have HB2 : Hid (Below w.heap.size w w2) := HT.out.bel.trans (hb2.mono (by omega))
    have HR2 : Hid (Row w2 (w.heap.size + 1) [.int .i64 0, .int .i64 0, .string ⟨#[]⟩, .string ⟨#[]⟩, .int .i64 0, .int .i64 0, .int .i64 0]) := HT.out.res.keep hb2 hlt
    clear hE2 hO2 hb2 hW2 HC
    go_wp2_with fail
    refine HC2.mono ?_
    rintro e w3 ⟨rfl, hb3⟩
    have HB3 : Hid (Below w.heap.size w w3) := HB2.out.trans (hb3.mono HB2.out.size)
    have HRes : Hid (Row w3 (w.heap.size + 1) [.int .i64 0, .int .i64 0, .string ⟨#[]⟩, .string ⟨#[]⟩, .int .i64 0, .int .i64 0, .int .i64 0]) := HR2.out.below (by simp) hb3
    obtain ⟨⟨rc, rs, rg, ry, rfr, rt, rk⟩, hr⟩ : ∃ r, toldP R = r := ⟨_, rfl⟩
    have HF : Hid (encR (toldP R) = .agg #[.int .i64 (rc : Int), .int .i64 (rs : Int), .string ⟨rg.toArray⟩, .string ⟨ry.toArray⟩, .int .i64 (rfr : Int), .int .i64 (rt : Int), .int .i64 rk]) := by show _ = _; rw [hr]; rfl
    rw [HF.out]
    clear hb3 hr HC2
    have r0 : w3.cell? ⟨w.heap.size + 1, 0, none⟩ = some (.int .i64 0) := HRes.out.cell 0 _ rfl
    have z0 := HRes.out.fro 0
    have r1 : w3.cell? ⟨w.heap.size + 1, 1, none⟩ = some (.int .i64 0) := HRes.out.cell 1 _ rfl
    have z1 := HRes.out.fro 1
    have r2 : w3.cell? ⟨w.heap.size + 1, 2, none⟩ = some (.string ⟨#[]⟩) := HRes.out.cell 2 _ rfl
    have z2 := HRes.out.fro 2
    have r3 : w3.cell? ⟨w.heap.size + 1, 3, none⟩ = some (.string ⟨#[]⟩) := HRes.out.cell 3 _ rfl
    have z3 := HRes.out.fro 3
    have r4 : w3.cell? ⟨w.heap.size + 1, 4, none⟩ = some (.int .i64 0) := HRes.out.cell 4 _ rfl
    have z4 := HRes.out.fro 4
    have r5 : w3.cell? ⟨w.heap.size + 1, 5, none⟩ = some (.int .i64 0) := HRes.out.cell 5 _ rfl
    have z5 := HRes.out.fro 5
    have r6 : w3.cell? ⟨w.heap.size + 1, 6, none⟩ = some (.int .i64 0) := HRes.out.cell 6 _ rfl
    have z6 := HRes.out.fro 6
    go_wp2
    refine bodyPost_ret (v := .agg #[.int .i64 (rc : Int), .int .i64 (rs : Int), .string ⟨rg.toArray⟩, .string ⟨ry.toArray⟩, .int .i64 (rfr : Int), .int .i64 (rt : Int), .int .i64 rk]) (by simp [results, Tryz.results9, go_sem, r0, r1, r2, r3, r4, r5, r6]) rfl ⟨?_, ?_⟩
    · rw [HF.out]
    · exact (((((((HB3.out.setCell (p := ⟨w.heap.size + 1, 0, none⟩) (Nat.le_add_right _ _) _).setCell (p := ⟨w.heap.size + 1, 1, none⟩) (Nat.le_add_right _ _) _).setCell (p := ⟨w.heap.size + 1, 2, none⟩) (Nat.le_add_right _ _) _).setCell (p := ⟨w.heap.size + 1, 3, none⟩) (Nat.le_add_right _ _) _).setCell (p := ⟨w.heap.size + 1, 4, none⟩) (Nat.le_add_right _ _) _).setCell (p := ⟨w.heap.size + 1, 5, none⟩) (Nat.le_add_right _ _) _).setCell (p := ⟨w.heap.size + 1, 6, none⟩) (Nat.le_add_right _ _) _)
end Go.Proofs.YtmodongnganbfaaGreatDoor.Rep
/- Replies: the satchel's Read. -/
namespace Go.Proofs.YtmodongnganbfaaGreatDoor.Rep
open Go.RowKit Go.Proofs.YtmodongnganbfaaGreatDoor Go.Proofs.YtmodongnganbfaaGreatDoor.Sha Go.Proofs.YtmodongnganbfaaGreatDoor.Inf
set_option maxHeartbeats 8000000 in
set_option maxRecDepth 100000 in
theorem satRead_walk (rf : Bool) (ao : Option Addr) (n cap : Nat) (evs : List Event) (deadline limit : Int) (ad : Nat → Addr) (B : Nat) (mx : Int) (w : World) (hX : RepX ad B mx w) (hB : B ≤ w.heap.size) (hE : EvAt w ao evs) (hn : evs.length = n) (hnc : n ≤ cap) (hc2 : cap ≤ 9223372036854775807) (hd : ∀ e ∈ evs, e.data.length ≤ 140737488355328) (ht : ∀ e ∈ evs, -9223372036854775808 ≤ e.ticks ∧ e.ticks ≤ 9223372036854775807) :
    Calls Tryz.prog 5 #[.agg #[.bool rf, .slice ao n cap], .int .i64 deadline, .int .i64 limit] w fun e w' => e = .returned (encR (toldP (readP rf evs deadline limit))) ∧ Below w.heap.size w w' := by
  have hb1 : Below w.heap.size w ((w.alloc (.cells #[.bool rf, .slice ao n cap] 24)).alloc (.cells #[.int .i64 0, .int .i64 0, .string ⟨#[]⟩, .string ⟨#[]⟩, .int .i64 0, .int .i64 0, .int .i64 0] 26)) := (below_one w _).alloc (by simp) _
  have HC := replyRead_walk rf ao n cap evs deadline limit ad B mx _ (hX.keep (hb1.mono hB)) (by simp; omega) (hE.below hb1) hn hnc hc2 hd ht
  have HR1 : Hid (Row ((w.alloc (.cells #[.bool rf, .slice ao n cap] 24)).alloc (.cells #[.int .i64 0, .int .i64 0, .string ⟨#[]⟩, .string ⟨#[]⟩, .int .i64 0, .int .i64 0, .int .i64 0] 26)) (w.heap.size + 1) [.int .i64 0, .int .i64 0, .string ⟨#[]⟩, .string ⟨#[]⟩, .int .i64 0, .int .i64 0, .int .i64 0]) := prow_new (w.alloc (.cells #[.bool rf, .slice ao n cap] 24)) #[.int .i64 0, .int .i64 0, .string ⟨#[]⟩, .string ⟨#[]⟩, .int .i64 0, .int .i64 0, .int .i64 0] 26 (w.heap.size + 1) (by simp)
  have HB1 : Hid (Below w.heap.size w ((w.alloc (.cells #[.bool rf, .slice ao n cap] 24)).alloc (.cells #[.int .i64 0, .int .i64 0, .string ⟨#[]⟩, .string ⟨#[]⟩, .int .i64 0, .int .i64 0, .int .i64 0] 26))) := hb1
  generalize readP rf evs deadline limit = R at *
  clear hX hE hn hnc hc2 hd ht hb1
  go_enter Tryz.func5, Tryz.ntmps5
  go_wp2_with fail
  refine HC.mono ?_
  rintro e w3 ⟨rfl, hb3⟩
  have HB3 : Hid (Below w.heap.size w w3) := HB1.out.trans (hb3.mono HB1.out.size)
  have HRes : Hid (Row w3 (w.heap.size + 1) [.int .i64 0, .int .i64 0, .string ⟨#[]⟩, .string ⟨#[]⟩, .int .i64 0, .int .i64 0, .int .i64 0]) := HR1.out.below (by simp) hb3
  obtain ⟨⟨rc, rs, rg, ry, rfr, rt, rk⟩, hr⟩ : ∃ r, toldP R = r := ⟨_, rfl⟩
  have HF : Hid (encR (toldP R) = .agg #[.int .i64 (rc : Int), .int .i64 (rs : Int), .string ⟨rg.toArray⟩, .string ⟨ry.toArray⟩, .int .i64 (rfr : Int), .int .i64 (rt : Int), .int .i64 rk]) := by show _ = _; rw [hr]; rfl
  rw [HF.out]
  clear hb3 hr HC
  have r0 : w3.cell? ⟨w.heap.size + 1, 0, none⟩ = some (.int .i64 0) := HRes.out.cell 0 _ rfl
  have z0 := HRes.out.fro 0
  have r1 : w3.cell? ⟨w.heap.size + 1, 1, none⟩ = some (.int .i64 0) := HRes.out.cell 1 _ rfl
  have z1 := HRes.out.fro 1
  have r2 : w3.cell? ⟨w.heap.size + 1, 2, none⟩ = some (.string ⟨#[]⟩) := HRes.out.cell 2 _ rfl
  have z2 := HRes.out.fro 2
  have r3 : w3.cell? ⟨w.heap.size + 1, 3, none⟩ = some (.string ⟨#[]⟩) := HRes.out.cell 3 _ rfl
  have z3 := HRes.out.fro 3
  have r4 : w3.cell? ⟨w.heap.size + 1, 4, none⟩ = some (.int .i64 0) := HRes.out.cell 4 _ rfl
  have z4 := HRes.out.fro 4
  have r5 : w3.cell? ⟨w.heap.size + 1, 5, none⟩ = some (.int .i64 0) := HRes.out.cell 5 _ rfl
  have z5 := HRes.out.fro 5
  have r6 : w3.cell? ⟨w.heap.size + 1, 6, none⟩ = some (.int .i64 0) := HRes.out.cell 6 _ rfl
  have z6 := HRes.out.fro 6
  go_wp2
  refine bodyPost_ret (v := .agg #[.int .i64 (rc : Int), .int .i64 (rs : Int), .string ⟨rg.toArray⟩, .string ⟨ry.toArray⟩, .int .i64 (rfr : Int), .int .i64 (rt : Int), .int .i64 rk]) (by simp [results, Tryz.results5, go_sem, r0, r1, r2, r3, r4, r5, r6]) rfl ⟨?_, ?_⟩
  · rw [HF.out]
  · exact (((((((HB3.out.setCell (p := ⟨w.heap.size + 1, 0, none⟩) (Nat.le_add_right _ _) _).setCell (p := ⟨w.heap.size + 1, 1, none⟩) (Nat.le_add_right _ _) _).setCell (p := ⟨w.heap.size + 1, 2, none⟩) (Nat.le_add_right _ _) _).setCell (p := ⟨w.heap.size + 1, 3, none⟩) (Nat.le_add_right _ _) _).setCell (p := ⟨w.heap.size + 1, 4, none⟩) (Nat.le_add_right _ _) _).setCell (p := ⟨w.heap.size + 1, 5, none⟩) (Nat.le_add_right _ _) _).setCell (p := ⟨w.heap.size + 1, 6, none⟩) (Nat.le_add_right _ _) _)
end Go.Proofs.YtmodongnganbfaaGreatDoor.Rep
/- Replies: in whatever pieces the bytes come, what is told is the same. -/
namespace Go.Proofs.YtmodongnganbfaaGreatDoor.Rep
open Go.RowKit Go.Proofs.YtmodongnganbfaaGreatDoor Go.Proofs.YtmodongnganbfaaGreatDoor.Sha
theorem eat_append (limit : Nat) : ∀ (a b : Bytes) (m : Mc), eat limit m (a ++ b) = (eat limit m a).bind fun m' => eat limit m' b
  | [], b, m => rfl
  | c :: a, b, m => by
    by_cases h : m.at' = 14
    · rw [eat_end _ h, eat_end _ h, Option.bind_some, eat_end _ h]
    · rw [List.cons_append, eat_cons h, eat_cons h]
      cases feed limit m c with
      | none => rfl
      | some m' => rw [Option.bind_some, Option.bind_some, eat_append limit a b m']
/-- Pieces as events: the ticks are none, or fewer. -/
def pieces : Nat → List Bytes → List Event
  | _, [] => []
  | k, p :: l => ⟨-(k : Int), 1, p⟩ :: pieces (k + 1) l
theorem pieces_length : ∀ (k : Nat) (l : List Bytes), (pieces k l).length = l.length
  | _, [] => rfl
  | k, p :: l => by rw [pieces, List.length_cons, List.length_cons, pieces_length (k + 1) l]
theorem pieces_snoc : ∀ (k : Nat) (l : List Bytes) (p : Bytes), pieces k (l ++ [p]) = pieces k l ++ [⟨-((k + l.length : Nat) : Int), 1, p⟩]
  | k, [], p => rfl
  | k, q :: l, p => by
    rw [List.cons_append, pieces, pieces_snoc (k + 1) l p, pieces, List.cons_append, List.length_cons]
    have e : k + 1 + l.length = k + (l.length + 1) := by omega
    rw [e]
theorem drive_pieces (limit : Nat) (D : Int) (hD : 0 ≤ D) (E : Event) : ∀ (l : List Bytes) (k : Nat) (m : Mc), m.at' ≠ 14 →
    drive limit D m 0 (pieces k l ++ [E]) = match eat limit m l.flatten with
      | none => ⟨none, 0⟩
      | some m' => if m'.at' = 14 then ⟨some m', 0⟩ else drive limit D m' 0 [E]
  | [], k, m, hm => by
    show drive limit D m 0 [E] = if m.at' = 14 then _ else _
    rw [if_neg hm]
  | p :: l, k, m, hm => by
    have hk : max (-(k : Int)) 0 = 0 := by omega
    rw [pieces, List.cons_append, drive_cons, List.flatten_cons, eat_append]
    simp only [hk]
    rw [if_neg (by omega), if_neg (by intro h; exact absurd h.1 (by decide)), if_neg (by simp)]
    cases he : eat limit m p with
    | none => rfl
    | some m' =>
      simp only [Option.bind_some, Int.add_zero]
      by_cases h4 : m'.at' = 14
      · rw [if_pos h4, eat_end _ h4]
        simp only [if_pos h4]
      · rw [if_neg h4]
        exact drive_pieces limit D hD E l (k + 1) m' h4
/-- In whatever pieces. -/
theorem read_pieces (l : List Bytes) (E : Event) (deadline limit : Int) : readP false (pieces 0 l ++ [E]) deadline limit = readP false (pieces 0 [l.flatten] ++ [E]) deadline limit := by
  have h0 : Mc.new.at' ≠ 14 := by decide
  have hD : 0 ≤ ded deadline := by unfold ded; omega
  have e : ∀ es, readP false es deadline limit = drive (lim limit) (ded deadline) Mc.new 0 es := fun es => by
    unfold readP goOn
    simp only [eat]
    rw [if_neg h0]
    simp
  rw [e, e, drive_pieces _ _ hD E l 0 _ h0, drive_pieces _ _ hD E [l.flatten] 0 _ h0]
  simp
theorem class_bounds (st : Nat) : 1 ≤ classOf st ∧ classOf st ≤ 6 := by
  unfold classOf
  repeat' split
  all_goals exact ⟨by decide, by decide⟩
theorem cls_bounds (R : Res) : 1 ≤ (toldP R).cls ∧ (toldP R).cls ≤ 6 := by
  unfold toldP
  split
  · exact ⟨show 1 ≤ 6 by decide, show 6 ≤ 6 by decide⟩
  · split
    · exact class_bounds _
    · split <;> exact ⟨show 1 ≤ 4 by decide, show 4 ≤ 6 by decide⟩
def sample : Bytes := [72, 84, 84, 80, 47, 49, 46, 49, 32, 50, 48, 48, 32, 79, 75, 13, 10, 67, 111, 110, 116, 101, 110, 116, 45, 76, 101, 110, 103, 116, 104, 58, 32, 51, 13, 10, 13, 10, 97, 98, 99, 100]
theorem sample_told : toldP (readP false [⟨0, 1, sample⟩] 0 10) = ⟨1, 200, [], [97, 98, 99], 0, 0, 0⟩ := by kernel_rfl
end Go.Proofs.YtmodongnganbfaaGreatDoor.Rep
/- satchelkeep's reading: the document's example of a reply; and events that a call lays in a row of its own. -/
namespace Go.Proofs.YtmodongnganbfaaGreatDoor.Rep
open Go.RowKit Go.Proofs.YtmodongnganbfaaGreatDoor Go.Proofs.YtmodongnganbfaaGreatDoor.Sha Go.Proofs.YtmodongnganbfaaGreatDoor.Inf
def sampleV : ByteArray := ⟨sample.toArray⟩
set_option maxHeartbeats 4000000 in
set_option maxRecDepth 100000 in
theorem reading_walk (ad : Nat → Addr) (B : Nat) (mx : Int) (w : World) (hX : RepX ad B mx w) (hB : B ≤ w.heap.size) :
    Calls Tryz.prog 7 #[] w fun e w' => e = .returned (.bool true) ∧ Below w.heap.size w w' := by
  have hb1 : Below w.heap.size w ((w.alloc (.cells #[.int .i64 0, .int .i64 1, .string sampleV] 32)).alloc (.cells #[.bool false, .slice (some ⟨w.heap.size, 0, none⟩) 1 1] 24)) := (below_one w _).alloc (by simp) _
  have hE : EvAt ((w.alloc (.cells #[.int .i64 0, .int .i64 1, .string sampleV] 32)).alloc (.cells #[.bool false, .slice (some ⟨w.heap.size, 0, none⟩) 1 1] 24)) (some ⟨w.heap.size, 0, none⟩) [⟨0, 1, sample⟩] := by
    intro i hi
    match i, hi with
    | 0, _ => exact ⟨w.heap.size, 0, rfl, by simp; omega, by simp, by simp, by simp [sampleV]⟩
  have HC := satRead_walk false (some ⟨w.heap.size, 0, none⟩) 1 1 [⟨0, 1, sample⟩] 0 10 ad B mx _ (hX.keep (hb1.mono hB)) (by simp; omega) hE rfl (Nat.le_refl _) (by decide) (fun e he => by rw [List.mem_singleton.1 he]; decide) (fun e he => by rw [List.mem_singleton.1 he]; decide)
  rw [sample_told] at HC
  have HF : encR ⟨1, 200, [], [97, 98, 99], 0, 0, 0⟩ = .agg #[.int .i64 1, .int .i64 200, .string ⟨#[]⟩, .string ⟨#[97, 98, 99]⟩, .int .i64 0, .int .i64 0, .int .i64 0] := rfl
  rw [HF] at HC
  have HS : Hid (sampleV = ⟨#[72, 84, 84, 80, 47, 49, 46, 49, 32, 50, 48, 48, 32, 79, 75, 13, 10, 67, 111, 110, 116, 101, 110, 116, 45, 76, 101, 110, 103, 116, 104, 58, 32, 51, 13, 10, 13, 10, 97, 98, 99, 100]⟩) := rfl
  have HB1 : Hid (Below w.heap.size w ((w.alloc (.cells #[.int .i64 0, .int .i64 1, .string sampleV] 32)).alloc (.cells #[.bool false, .slice (some ⟨w.heap.size, 0, none⟩) 1 1] 24))) := hb1
  clear hX hE HF hb1
  go_enter Tryz.func7, Tryz.ntmps7
  go_wp2_with fail
  rw [← HS.out]
  refine HC.mono ?_
  rintro e w1 ⟨rfl, hb⟩
  have HB2 : Hid (∀ o, Below w.heap.size w (w1.alloc o)) := fun o => (HB1.out.trans (hb.mono HB1.out.size)).alloc (Nat.le_trans HB1.out.size hb.size) o
  clear hb HC HB1
  go_wp2
  go_ret
  exact ⟨rfl, HB2.out _⟩
/-- An event's cells. -/
def encE (e : Event) : List Value := [.int .i64 e.ticks, .int .i64 e.what, .string ⟨e.data.toArray⟩]
theorem eventInfo : (Tryz.prog.info? 32).map (fun i => (i.zero, i.size, i.bytes)) = some (some (.agg #[.int .i64 0, .int .i64 0, .string ⟨#[]⟩]), 3, 32) := by kernel_rfl
theorem flat_enc : ∀ (L : List Event) (k j : Nat) (h : k < L.length), j < 3 → (L.flatMap encE)[k * 3 + j]? = (encE L[k])[j]?
  | [], _, _, h, _ => by simp at h
  | b :: L, 0, j, _, hj => by
    rw [List.flatMap_cons, List.getElem?_append_left (by simp [encE]; omega)]
    simp
  | b :: L, k + 1, j, h, hj => by
    have e : (k + 1) * 3 + j - (encE b).length = k * 3 + j := by simp [encE]; omega
    rw [List.flatMap_cons, List.getElem?_append_right (by simp [encE]; omega), e, flat_enc L k j (by simpa using h) hj]
    simp
/-- A row of events, as Read wants it. -/
theorem evAt_row {w : World} {base n : Nat} {v : Value} {evs : List Event} (h : w.ownsRow base 32 3 v n (evs.flatMap encE)) (hn : evs.length = n) (h0 : 0 < n) : ∃ g cap, v = .slice (some ⟨g, 0, none⟩) n cap ∧ base ≤ g ∧ n ≤ cap ∧ cap ≤ 9223372036854775807 ∧ EvAt w (some ⟨g, 0, none⟩) evs := by
  have h2 := h
  rcases h.2 with ⟨_, q⟩ | ⟨g, cap, cur, rfl, hb, hg, hc, hm, _⟩
  · omega
  · have hgl : g < w.heap.size := (h.lt g rfl).2
    refine ⟨g, cap, rfl, hb, hc, hm, fun i hi => ⟨g, 0, rfl, hgl, ?_, ?_, ?_⟩⟩
    · rw [Nat.zero_add, h2.cellAt (i * 3) (by omega)]; exact flat_enc evs i 0 hi (by decide)
    · rw [Nat.zero_add, h2.cellAt (i * 3 + 1) (by omega), flat_enc evs i 1 hi (by decide)]; rfl
    · rw [Nat.zero_add, h2.cellAt (i * 3 + 2) (by omega), flat_enc evs i 2 hi (by decide)]; rfl
theorem cells_three (w : World) (a b c : Value) (t : TypeId) : ∀ j u, [a, b, c][j]? = some u → (w.alloc (.cells #[a, b, c] t)).cell? ((⟨w.heap.size, 0, none⟩ : Addr).add j) = some u := by
  intro j u hj
  match j, hj with
  | 0, hj => simp at hj; subst hj; simp [Addr.add]
  | 1, hj => simp at hj; subst hj; simp [Addr.add]
  | 2, hj => simp at hj; subst hj; simp [Addr.add]
end Go.Proofs.YtmodongnganbfaaGreatDoor.Rep
