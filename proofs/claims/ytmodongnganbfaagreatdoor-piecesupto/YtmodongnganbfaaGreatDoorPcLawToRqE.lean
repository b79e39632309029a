/- satchelkeep.Pieces: in whatever pieces the bytes come, what is told is the same. -/
import Derived.Test.YtmodongnganbfaaGreatDoorRqBToPcRead
import Derived.Test.YtmodongnganbfaaGreatDoorPcCut
namespace Go.Proofs.YtmodongnganbfaaGreatDoor.Rep
open Go.RowKit Go.Proofs.YtmodongnganbfaaGreatDoor Go.Proofs.YtmodongnganbfaaGreatDoor.Sha Go.Proofs.YtmodongnganbfaaGreatDoor.Inf Go.Proofs.YtmodongnganbfaaGreatDoor.Keep
/-- The pieces, as lists. -/
def plists (L : List ByteArray) : List Bytes := L.map (·.data.toList)
/-- How far the loop is: the first k pieces are laid. -/
def PRel (w4 : World) (L : List ByteArray) (v i : Value) (wr : World) : Prop :=
  ∃ k : Nat, k ≤ L.length ∧ i = .int .i64 (k : Int) ∧ wr.ownsRow w4.heap.size 32 3 v k ((pieces 0 (plists (L.take k))).flatMap encE) ∧ Below w4.heap.size w4 wr
theorem prel_step {L : List ByteArray} {k : Nat} (hk : k < L.length) : (pieces 0 (plists (L.take (k + 1)))).flatMap encE = (pieces 0 (plists (L.take k))).flatMap encE ++ [.int .i64 (-(k : Int)), .int .i64 1, .string L[k]] := by
  have e1 : L.take (k + 1) = L.take k ++ [L[k]] := List.take_succ_eq_append_getElem hk
  have e2 : 0 + (plists (L.take k)).length = k := by simp [plists]; omega
  rw [e1]
  show (pieces 0 ((L.take k ++ [L[k]]).map (·.data.toList))).flatMap encE = _
  rw [List.map_append]
  show (pieces 0 (plists (L.take k) ++ [L[k].data.toList])).flatMap encE = _
  rw [pieces_snoc, e2, List.flatMap_append, List.flatMap_singleton]
  rfl
theorem piece_small {L : List ByteArray} {s : ByteArray} (h : (L.map (·.data.toList)).flatten = s.data.toList) : ∀ p ∈ plists L, p.length ≤ s.size := by
  intro p hp
  have h1 : p.length ≤ (plists L).flatten.length := (List.sublist_flatten_of_mem hp).length_le
  have h2 : (plists L).flatten = s.data.toList := h
  rw [h2] at h1
  simpa using h1
theorem pieces_mem : ∀ (l : List Bytes) (k : Nat) (e : Event), e ∈ pieces k l → e.data ∈ l ∧ -((k + l.length : Nat) : Int) ≤ e.ticks ∧ e.ticks ≤ 0
  | [], _, _, h => by cases h
  | p :: l, k, e, h => by
    rcases List.mem_cons.1 h with rfl | h
    · exact ⟨List.mem_cons_self .., (by show -((k + (p :: l).length : Nat) : Int) ≤ -(k : Int); omega), (by show -(k : Int) ≤ 0; omega)⟩
    · obtain ⟨h1, h2, h3⟩ := pieces_mem l (k + 1) e h
      exact ⟨List.mem_cons_of_mem _ h1, by rw [List.length_cons]; omega, h3⟩
set_option maxHeartbeats 8000000 in
set_option maxRecDepth 100000 in
theorem pieces_law (s : ByteArray) (ra : Option Addr) (n cap : Nat) (what deadline limit : Int) (ad : Nat → Addr) (B : Nat) (mx : Int) (w : World) (hX : RepX ad B mx w) (hB : B ≤ w.heap.size) (hs : s.size ≤ 140737488355328) (hn : n ≤ 1048579) (hR : RawAt w ra n) :
    Calls Tryz.prog 4 #[.string s, .slice ra n cap, .int .i64 what, .int .i64 deadline, .int .i64 limit] w fun e w' => e = .returned (.bool true) ∧ Below w.heap.size w w' := by
  obtain ⟨i0, hi, hz0, hz1, hz2⟩ := info_parts eventInfo
  have HG : Hid (∀ wx, Below w.heap.size w wx → Calls Tryz.prog 7 #[] wx fun e w' => e = .returned (.bool true) ∧ Below wx.heap.size wx w') := fun wx hb => reading_walk ad B mx wx (hX.keep (hb.mono hB)) (Nat.le_trans hB hb.size)
  have HSR : Hid (∀ wx g m c evs, Below w.heap.size w wx → EvAt wx (some ⟨g, 0, none⟩) evs → evs.length = m → m ≤ c → c ≤ 9223372036854775807 → (∀ e ∈ evs, e.data.length ≤ 140737488355328 ∧ -9223372036854775808 ≤ e.ticks ∧ e.ticks ≤ 9223372036854775807) → Calls Tryz.prog 5 #[.agg #[.bool false, .slice (some ⟨g, 0, none⟩) m c], .int .i64 deadline, .int .i64 limit] wx fun e w' => e = .returned (encR (toldP (readP false evs deadline limit))) ∧ Below wx.heap.size wx w') :=
    fun wx g m c evs hb hE h1 h2 h3 h4 => satRead_walk false (some ⟨g, 0, none⟩) m c evs deadline limit ad B mx wx (hX.keep (hb.mono hB)) (Nat.le_trans hB hb.size) hE h1 h2 h3 (fun e he => (h4 e he).1) (fun e he => (h4 e he).2)
  have HCut : Hid (∀ wx, Below w.heap.size w wx → Calls Tryz.prog 8 #[.string s, .slice ra n cap] wx fun e w' => ∃ v L, e = .returned v ∧ OwnL strv w' wx.heap.size v L ∧ Hid ((L.map (·.data.toList)).flatten = s.data.toList ∧ L.length ≤ n + 1 ∧ 0 < L.length) ∧ Below wx.heap.size wx w') := fun wx hb =>
    cut_walk s ra n cap wx hs (by omega) (fun h0 => by
      obtain ⟨rb, ro, e, hc⟩ := hR h0
      exact ⟨rb, ro, e, fun j hj => by obtain ⟨z, z1, z2, h⟩ := hc j hj; exact ⟨z, z1, z2, cell_below hb h⟩⟩)
  obtain ⟨R, HRd⟩ : ∃ R, Hid (readP false [⟨0, 1, s.data.toList⟩, ⟨0, what, []⟩] deadline limit = R) := ⟨_, rfl⟩
  have HPc : Hid (∀ L : List ByteArray, (L.map (·.data.toList)).flatten = s.data.toList → readP false (pieces 0 (plists L) ++ [⟨0, what, []⟩]) deadline limit = R) := fun L hL => by
    rw [read_pieces, ← HRd.out]
    have e : (plists L).flatten = s.data.toList := hL
    rw [e]
    rfl
  have HCl := cls_bounds R
  obtain ⟨⟨rc, rs, rg, ry, rfr, rt, rk⟩, hr⟩ : ∃ r, toldP R = r := ⟨_, rfl⟩
  have HF : Hid (encR (toldP R) = .agg #[.int .i64 (rc : Int), .int .i64 (rs : Int), .string ⟨rg.toArray⟩, .string ⟨ry.toArray⟩, .int .i64 (rfr : Int), .int .i64 (rt : Int), .int .i64 rk]) := by show _ = _; rw [hr]; rfl
  rw [hr] at HCl
  have hc1 : (1 : Int) ≤ (rc : Int) := by have := HCl.1; simp only at this; omega
  have hc6 : (rc : Int) ≤ 6 := by have := HCl.2; simp only at this; omega
  have HS : Hid (s.size ≤ 140737488355328) := hs
  clear hX hR hr HCl hB hs
  go_enter Tryz.func4, Tryz.ntmps4
  go_wp2_with fail
  refine (HG.out w (Below.refl _ _)).mono ?_
  rintro e w1 ⟨rfl, hb1⟩
  clear HG
  have hE1 : EvAt (w1.alloc (.cells #[.int .i64 0, .int .i64 1, .string s, .int .i64 0, .int .i64 what, .string ⟨#[]⟩] 32)) (some ⟨w1.heap.size, 0, none⟩) [⟨0, 1, s.data.toList⟩, ⟨0, what, []⟩] := by
    intro i hi
    match i, hi with
    | 0, _ => exact ⟨w1.heap.size, 0, rfl, by simp, by simp, by simp, by simp⟩
    | 1, _ => exact ⟨w1.heap.size, 0, rfl, by simp, by simp, by simp, by simp⟩
  have hbA : Below w.heap.size w (w1.alloc (.cells #[.int .i64 0, .int .i64 1, .string s, .int .i64 0, .int .i64 what, .string ⟨#[]⟩] 32)) := hb1.alloc hb1.size _
  have HC1 := HSR.out _ w1.heap.size 2 2 _ hbA hE1 rfl (Nat.le_refl _) (by decide) (fun e he => by
    simp at he
    rcases he with rfl | rfl
    · exact ⟨by simpa using HS.out, show (-9223372036854775808 : Int) ≤ 0 by decide, show (0 : Int) ≤ 9223372036854775807 by decide⟩
    · exact ⟨by simp, show (-9223372036854775808 : Int) ≤ 0 by decide, show (0 : Int) ≤ 9223372036854775807 by decide⟩)
  rw [HRd.out, HF.out] at HC1
  have HbA : Hid (Below w.heap.size w (w1.alloc (.cells #[.int .i64 0, .int .i64 1, .string s, .int .i64 0, .int .i64 what, .string ⟨#[]⟩] 32))) := hbA
  clear hE1 hbA hb1
  go_wp2_with fail
  refine HC1.mono ?_
  rintro e w2 ⟨rfl, hb2⟩
  have HB2 : Hid (∀ o, Below w.heap.size w (w2.alloc o)) := fun o => (HbA.out.trans (hb2.mono HbA.out.size)).alloc (Nat.le_trans HbA.out.size hb2.size) o
  clear HC1 hb2 HbA
  obtain ⟨w3, HW3⟩ : ∃ w3, Hid (w2.alloc (.cells #[.int .i64 (rc : Int), .int .i64 (rs : Int), .string ⟨rg.toArray⟩, .string ⟨ry.toArray⟩, .int .i64 (rfr : Int), .int .i64 (rt : Int), .int .i64 rk] 26) = w3) := ⟨_, rfl⟩
  have HB3 : Hid (Below w.heap.size w w3) := by rw [← HW3.out]; exact HB2.out _
  have HRow : Hid (Row w3 w2.heap.size [.int .i64 (rc : Int), .int .i64 (rs : Int), .string ⟨rg.toArray⟩, .string ⟨ry.toArray⟩, .int .i64 (rfr : Int), .int .i64 (rt : Int), .int .i64 rk]) := by rw [← HW3.out]; exact prow_new w2 #[.int .i64 (rc : Int), .int .i64 (rs : Int), .string ⟨rg.toArray⟩, .string ⟨ry.toArray⟩, .int .i64 (rfr : Int), .int .i64 (rt : Int), .int .i64 rk] 26 w2.heap.size rfl
  have HC2 := HCut.out w3 HB3.out
  clear HB2 HCut
  go_wp2_with fail
  rw [HW3.out]
  refine HC2.mono ?_
  rintro e w4 ⟨v, L, rfl, hown, HL, hb4⟩
  obtain ⟨g, cp, rfl⟩ := hown.form (by intro e; have := HL.out.2.2; rw [List.map_eq_nil_iff] at e; rw [e] at this; simp at this)
  have hlen : (L.map strv).length = L.length := by simp
  rw [hlen] at hown
  rw [hlen]
  have HB4 : Hid (Below w.heap.size w w4) := HB3.out.trans (hb4.mono HB3.out.size)
  have HR4 : Hid (Row w4 w2.heap.size [.int .i64 (rc : Int), .int .i64 (rs : Int), .string ⟨rg.toArray⟩, .string ⟨ry.toArray⟩, .int .i64 (rfr : Int), .int .i64 (rt : Int), .int .i64 rk]) := HRow.out.below (by simp) hb4
  have HCe : Hid (∀ k (hk : k < L.length), w4.cell? ⟨g, k, none⟩ = some (.string L[k]) ∧ g < w4.heap.size) := fun k hk => by
    rcases hown with ⟨q, _⟩ | ⟨g', cap', hv, _, hg, _, hc, _⟩
    · cases q
    · injection hv with hv _ _
      injection hv with hv
      injection hv with hv _ _
      subst hv
      exact ⟨hc k _ (by rw [List.getElem?_map, List.getElem?_eq_getElem hk]; rfl), hg⟩
  have hLn : L.length ≤ 1048580 := by have := HL.out.2.1; omega
  have HL0 : Hid (0 < L.length) := HL.out.2.2
  clear hb4 hown HC2 HRow HB3 HW3 hlen
  go_wp2
  go_loopw [13, 15] (fun v i wr => PRel w4 L v i wr) (fun _ i _ => L.length - (intOf i).toNat)
  case atStart => exact ⟨0, Nat.zero_le _, rfl, ⟨rfl, .inl ⟨rfl, rfl⟩⟩, Below.refl _ _⟩
  case round =>
    obtain ⟨k, hk, rfl, ho, hB⟩ := hrel
    have hsz := hB.size
    by_cases hlt : k < L.length
    · have hlt' : (k : Int) < (L.length : Int) := by omega
      obtain ⟨hc0, hg0⟩ := HCe.out k hlt
      have hcell : wr.cell? ⟨g, k, none⟩ = some (.string L[k]) := by rw [hB.cell (p := ⟨g, k, none⟩) hg0]; exact hc0
      have HSt := prel_step hlt
      obtain ⟨q, HQ⟩ : ∃ q : ByteArray, Hid (L[k] = q) := ⟨L[k], rfl⟩
      rw [HQ.out] at hcell HSt
      have HSt' : Hid (_ = _) := HSt
      clear hc0 HSt
      go_wp2_with (at_builtin; refine wpList_append_own _ rfl _ _ 22 rfl w4.heap.size 32 i0 (.agg #[.int .i64 0, .int .i64 0, .string ⟨#[]⟩]) 3 32 Tryz.underlying22 hi hz0 hz1 hz2 rfl (by decide) _ _ _ rfl (ho.alloc _) ⟨wr.heap.size, 0, none⟩ 1 1 [.int .i64 (-(k : Int)), .int .i64 1, .string q] rfl rfl (cells_three _ _ _ _ _) (by intro u hu; simp at hu; rcases hu with rfl | rfl | rfl <;> rfl) (by unfold maxLen; omega) (by omega) (by simp; omega) ?_)
      intro v' w5 ho' hgrow hnil
      have HRl : Hid (PRel w4 L v' (.int .i64 ((k : Int) + 1)) w5) := ⟨k + 1, by omega, by simp, by rw [HSt'.out]; exact ho', (hB.alloc (by omega) _).grown hgrow (by simp; omega) (fun j hj => (ho.lt j hj).1)⟩
      clear ho' hgrow hnil ho hB hcell HSt'
      go_wp2
      go_roundw
      case rel => exact HRl.out
      case measure => simp [intOf]; omega
    · have hlt' : ¬ (k : Int) < (L.length : Int) := by omega
      obtain rfl : k = L.length := by omega
      rw [List.take_length] at ho
      go_wp2_with (at_builtin; refine wpList_append_own _ rfl _ _ 22 rfl w4.heap.size 32 i0 (.agg #[.int .i64 0, .int .i64 0, .string ⟨#[]⟩]) 3 32 Tryz.underlying22 hi hz0 hz1 hz2 rfl (by decide) _ _ _ rfl (ho.alloc _) ⟨wr.heap.size, 0, none⟩ 1 1 [.int .i64 0, .int .i64 what, .string ⟨#[]⟩] rfl rfl (cells_three _ _ _ _ _) (by intro u hu; simp at hu; rcases hu with rfl | rfl | rfl <;> rfl) (by unfold maxLen; omega) (by omega) (by simp; omega) ?_)
      intro v' w5 ho' hgrow hnil
      have hB5 : Below w4.heap.size w4 w5 := (hB.alloc (by omega) _).grown hgrow (by simp; omega) (fun j hj => (ho.lt j hj).1)
      have hev : (pieces 0 (plists L)).flatMap encE ++ [.int .i64 0, .int .i64 what, .string ⟨#[]⟩] = (pieces 0 (plists L) ++ [(⟨0, what, []⟩ : Event)]).flatMap encE := by rw [List.flatMap_append, List.flatMap_singleton]; rfl
      rw [hev] at ho'
      have hln : (pieces 0 (plists L) ++ [(⟨0, what, []⟩ : Event)]).length = L.length + 1 := by rw [List.length_append, pieces_length]; simp [plists]
      obtain ⟨g5, c5, rfl, _, hc5, hm5, hE5⟩ := evAt_row ho' hln (by omega)
      have HB5 : Hid (Below w.heap.size w w5) := HB4.out.trans (hB5.mono HB4.out.size)
      have HC5 := HSR.out w5 g5 _ c5 _ HB5.out hE5 hln hc5 hm5 (fun e he => by
        rcases List.mem_append.1 he with he | he
        · obtain ⟨h1, h2, h3⟩ := pieces_mem _ _ _ he
          have hp := piece_small HL.out.1 _ h1
          have hl2 : (plists L).length = L.length := by simp [plists]
          rw [hl2] at h2
          have hS := HS.out
          exact ⟨by omega, by omega, by omega⟩
        · rw [List.mem_singleton.1 he]
          exact ⟨by simp, show (-9223372036854775808 : Int) ≤ 0 by decide, show (0 : Int) ≤ 9223372036854775807 by decide⟩)
      rw [HPc.out L HL.out.1, HF.out] at HC5
      have HR5 : Hid (Row w5 w2.heap.size [.int .i64 (rc : Int), .int .i64 (rs : Int), .string ⟨rg.toArray⟩, .string ⟨ry.toArray⟩, .int .i64 (rfr : Int), .int .i64 (rt : Int), .int .i64 rk]) := HR4.out.below (by simp) hB5
      clear ho' hgrow hnil ho hB hev hln hE5 hB5 HR4 HB4 HCe HSR HRd HPc HF HL
      go_wp2_with fail
      refine HC5.mono ?_
      rintro e w6 ⟨rfl, hb6⟩
      have HB6 : Hid (∀ o, Below w.heap.size w (w6.alloc o)) := fun o => (HB5.out.trans (hb6.mono HB5.out.size)).alloc (Nat.le_trans HB5.out.size hb6.size) o
      have hR6 : Row w6 w2.heap.size [.int .i64 (rc : Int), .int .i64 (rs : Int), .string ⟨rg.toArray⟩, .string ⟨ry.toArray⟩, .int .i64 (rfr : Int), .int .i64 (rt : Int), .int .i64 rk] := HR5.out.below (by simp) hb6
      have r0 := hR6.cell 0 _ rfl
      have r1 := hR6.cell 1 _ rfl
      have r2 := hR6.cell 2 _ rfl
      have r3 := hR6.cell 3 _ rfl
      have r4 := hR6.cell 4 _ rfl
      have r5 := hR6.cell 5 _ rfl
      have r6 := hR6.cell 6 _ rfl
      have hl6 := hR6.lt (by simp)
      clear hb6 HC5 hR6 HR5 HB5
      go_wp2
      go_ret
      exact ⟨rfl, HB6.out _⟩
end Go.Proofs.YtmodongnganbfaaGreatDoor.Rep
/- Replies: satchellaw.Reads, of every dial. -/
namespace Go.Proofs.YtmodongnganbfaaGreatDoor.Rep
open Go.RowKit Go.Proofs.YtmodongnganbfaaGreatDoor Go.Proofs.YtmodongnganbfaaGreatDoor.Sha Go.Proofs.YtmodongnganbfaaGreatDoor.Inf
set_option maxHeartbeats 8000000 in
set_option maxRecDepth 100000 in
theorem reads_law (rf : Bool) (ao : Option Addr) (n cap : Nat) (evs : List Event) (deadline limit : Int) (ad : Nat → Addr) (B : Nat) (mx : Int) (w : World) (hX : RepX ad B mx w) (hB : B ≤ w.heap.size) (hE : EvAt w ao evs) (hn : evs.length = n) (hnc : n ≤ cap) (hc2 : cap ≤ 140737488355328) (hd : ∀ e ∈ evs, e.data.length ≤ 140737488355328) (ht : ∀ e ∈ evs, -9223372036854775808 ≤ e.ticks ∧ e.ticks ≤ 9223372036854775807) :
    Calls Tryz.prog 3 #[.agg #[.bool rf, .slice ao n cap], .int .i64 deadline, .int .i64 limit] w fun e w' => e = .returned (.bool true) ∧ Below w.heap.size w w' := by
  have hb1 : Below w.heap.size w (w.alloc (.cells #[.bool rf, .slice ao n cap] 24)) := below_one w _
  have HC := satRead_walk rf ao n cap evs deadline limit ad B mx _ (hX.keep (hb1.mono hB)) (by simp; omega) (hE.below hb1) hn hnc (by omega) hd ht
  have HR : Hid (∀ wx, Below w.heap.size w wx → Calls Tryz.prog 6 #[.agg #[.bool rf, .slice ao n cap], .int .i64 deadline, .int .i64 limit] wx fun e w' => e = .returned (encR (toldP (readP rf evs deadline limit))) ∧ Below wx.heap.size wx w') := fun wx hb => rread_walk rf ao n cap evs deadline limit wx (hE.below hb) hn (by omega) hd ht
  generalize readP rf evs deadline limit = R at *
  clear hX hE hn hnc hc2 hd ht hB
  obtain ⟨⟨rc, rs, rg, ry, rfr, rt, rk⟩, hr⟩ : ∃ r, toldP R = r := ⟨_, rfl⟩
  have HF : encR (toldP R) = .agg #[.int .i64 (rc : Int), .int .i64 (rs : Int), .string ⟨rg.toArray⟩, .string ⟨ry.toArray⟩, .int .i64 (rfr : Int), .int .i64 (rt : Int), .int .i64 rk] := by rw [hr]; rfl
  rw [HF] at HC HR
  clear hr HF
  go_enter Tryz.func3, Tryz.ntmps3
  go_wp2_with fail
  refine HC.mono ?_
  rintro e w1 ⟨rfl, hb⟩
  have hB1 : Below w.heap.size w w1 := hb1.trans (hb.mono (by simp))
  have b0 : w1.cell? ⟨w.heap.size, 0, none⟩ = some (.bool rf) := cell_below hb (by simp)
  have b1 : w1.cell? ⟨w.heap.size, 1, none⟩ = some (.slice ao n cap) := cell_below hb (by simp)
  have hl1 : w.heap.size < w1.heap.size := lt_of_cell b0
  obtain ⟨w2, HW2⟩ : ∃ w2, Hid (w1.alloc (.cells #[.int .i64 (rc : Int), .int .i64 (rs : Int), .string ⟨rg.toArray⟩, .string ⟨ry.toArray⟩, .int .i64 (rfr : Int), .int .i64 (rt : Int), .int .i64 rk] 26) = w2) := ⟨_, rfl⟩
  have hB2 : Below w.heap.size w w2 := by rw [← HW2.out]; exact hB1.alloc (by omega) _
  have hRow : Row w2 w1.heap.size [.int .i64 (rc : Int), .int .i64 (rs : Int), .string ⟨rg.toArray⟩, .string ⟨ry.toArray⟩, .int .i64 (rfr : Int), .int .i64 (rt : Int), .int .i64 rk] := by rw [← HW2.out]; exact prow_new w1 #[.int .i64 (rc : Int), .int .i64 (rs : Int), .string ⟨rg.toArray⟩, .string ⟨ry.toArray⟩, .int .i64 (rfr : Int), .int .i64 (rt : Int), .int .i64 rk] 26 w1.heap.size rfl
  have HC2 := HR.out w2 hB2
  have HB2 : Hid (Below w.heap.size w w2) := hB2
  have HRow : Hid (Row w2 w1.heap.size [.int .i64 (rc : Int), .int .i64 (rs : Int), .string ⟨rg.toArray⟩, .string ⟨ry.toArray⟩, .int .i64 (rfr : Int), .int .i64 (rt : Int), .int .i64 rk]) := hRow
  clear hb hB1 HC hB2 hRow hb1
  go_wp2_with fail
  rw [HW2.out]
  refine HC2.mono ?_
  rintro e w3 ⟨rfl, hb3⟩
  have HB3 : Hid (∀ o, Below w.heap.size w (w3.alloc o)) := fun o => (HB2.out.trans (hb3.mono HB2.out.size)).alloc (Nat.le_trans HB2.out.size hb3.size) o
  have hR3 : Row w3 w1.heap.size [.int .i64 (rc : Int), .int .i64 (rs : Int), .string ⟨rg.toArray⟩, .string ⟨ry.toArray⟩, .int .i64 (rfr : Int), .int .i64 (rt : Int), .int .i64 rk] := HRow.out.below (by simp) hb3
  have r0 := hR3.cell 0 _ rfl
  have r1 := hR3.cell 1 _ rfl
  have r2 := hR3.cell 2 _ rfl
  have r3 := hR3.cell 3 _ rfl
  have r4 := hR3.cell 4 _ rfl
  have r5 := hR3.cell 5 _ rfl
  have r6 := hR3.cell 6 _ rfl
  have hl3 := hR3.lt (by simp)
  clear hb3 HC2 hR3 HW2 HB2 HRow b0 b1 hl1
  go_wp2
  go_ret
  exact ⟨rfl, HB3.out _⟩
end Go.Proofs.YtmodongnganbfaaGreatDoor.Rep
