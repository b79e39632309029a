/- The dial that satchellaw.Reads is handed, opened: its events in memory. -/
import Derived.Test.YtmodongnganbfaaGreatDoorReadsLaid
import Derived.Deep.Slices
import Derived.Deep.Strs
import Derived.SizedLaws
namespace Go.Proofs.YtmodongnganbfaaGreatDoor.ReadsP
open Go.ChangeShapes Go.WideShapes Go.ChangeAt Go.RowKit Go.Proofs.YtmodongnganbfaaGreatDoor Go.Proofs.YtmodongnganbfaaGreatDoor.Rep Go.Deep Go.ChangeShapes Go.Deep
theorem cellsB : Tryz.prog.cellsOf 4 = 1 := by kernel_rfl
theorem cellsL : Tryz.prog.cellsOf 22 = 1 := by kernel_rfl
theorem cellsV : Tryz.prog.cellsOf 32 = 3 := by kernel_rfl
theorem cellsN : Tryz.prog.cellsOf 3 = 1 := by kernel_rfl
theorem cellsT : Tryz.prog.cellsOf 9 = 1 := by kernel_rfl
theorem cellsD : Tryz.prog.cellsOf 24 = 2 := by kernel_rfl
theorem laidOut : laidOutB Tryz.prog = true := by kernel_rfl
theorem bytesV : Tryz.prog.bytesOf 32 = 32 := by kernel_rfl
theorem weightsAll_mem {H : Type} {P : Program} {e : TypeId} {d : DataW H} {n : Nat} (hn : n ∈ d.weights P e) : ∀ {l : List (DataW H)}, d ∈ l → n ∈ DataW.weightsAll P e l
  | d0 :: l, hd => by
    simp only [DataW.weightsAll, List.mem_append]
    rcases List.mem_cons.1 hd with rfl | h
    · exact .inl hn
    · exact .inr (weightsAll_mem hn h)
set_option maxRecDepth 100000 in
/-- An event in memory. -/
theorem open_event {H : Type} {enc : TypeId × Value → H} {W : World} {base : Nat} {spare : Nat → Bool} {held : Bool} {k : Nat} {cs : List Value} {x : DataW H × List MemPlace} (h : DataW.trod enc Tryz.prog W base spare held k 32 cs = some x) :
    ∃ (t u : Int) (s : ByteArray), cs = [.int .i64 t, .int .i64 u, .string s] ∧ (-9223372036854775808 ≤ t ∧ t ≤ 9223372036854775807) ∧ s.size ≤ maxLen ∧ s.size ∈ x.1.weights Tryz.prog 32 := by
  obtain ⟨y0, y1, y2, n, rfl, hl, h0, h1, h2⟩ := trod_struct3 Tryz.underlying32 h
  rw [cellsV] at hl
  match cs, hl with
  | [c0, c1, c2], _ =>
    obtain ⟨t, e0, _, wt⟩ := DataW.trod_int Tryz.underlying3 h0
    obtain ⟨u, e1, _, _⟩ := DataW.trod_int Tryz.underlying3 h1
    obtain ⟨s, e2, ey, hs⟩ := DataW.trod_string Tryz.underlying9 h2
    rw [cellsN] at e0 e1
    rw [cellsT] at e2
    simp at e0 e1 e2
    refine ⟨t, u, s, by rw [e0, e1, e2], bounds_i64 wt, hs, ?_⟩
    subst ey
    simp only [DataW.weights, Tryz.underlying32, DataW.weightsEach, List.map_cons, List.mem_append, List.mem_singleton]
    refine .inr (.inr (.inl ?_))
    simp
set_option maxRecDepth 100000 in
/-- The events, opened. -/
theorem open_events {H : Type} {enc : TypeId × Value → H} {W : World} {base : Nat} {spare : Nat → Bool} {held : Bool} {k : Nat} {v : Value} {x : DataW H × List MemPlace} (hsp : ∀ b, spare b = true) (h : DataW.trod enc Tryz.prog W base spare held k 22 [v] = some x) (Bd : Nat) (hBd : ∀ z ∈ x.1.weights Tryz.prog 22, z ≤ Bd) :
    ∃ ao n cap evs, v = .slice ao n cap ∧ evs.length = n ∧ n ≤ cap ∧ cap ≤ Bd ∧ EvAt W ao evs ∧ (∀ e ∈ evs, e.data.length ≤ Bd) ∧ ∀ e ∈ evs, -9223372036854775808 ≤ e.ticks ∧ e.ticks ≤ 9223372036854775807 := by
  rcases open_slice Tryz.underlying22 h with ⟨e, _⟩ | ⟨a, len, cap, m, f, D, Pl, e, _, hlc, hcm, hm, hx, hel⟩
  · injection e with e _
    exact ⟨none, 0, 0, [], e, rfl, Nat.le_refl _, Nat.zero_le _, fun i hi => (by simp at hi), fun e he => (by cases he), fun e he => (by cases he)⟩
  · injection e with e _
    rw [hsp, if_pos rfl] at hm
    subst hm
    have hlm : len ≤ m := hlc
    have hw : (len + (m - len)) * 32 ≤ Bd ∧ ∀ i, i < len → ∀ z ∈ (D i).weights Tryz.prog 32, z ≤ Bd := by
      subst hx
      simp only [DataW.weights, Tryz.underlying22, List.length_map, List.length_range, bytesV] at hBd
      refine ⟨hBd _ (List.mem_cons_self ..), fun i hi z hz => hBd z (List.mem_cons_of_mem _ (List.mem_append_left _ (weightsAll_mem hz (List.mem_map.2 ⟨i, List.mem_range.2 hi, rfl⟩))))⟩
    have hspot : 0 < len → a.spot = none := fun h0 => by
      obtain ⟨cs', hc, ht⟩ := hel 0 (by omega)
      obtain ⟨t, u, s, rfl, hb, _, hs0⟩ := open_event ht
      have hs := hw.2 _ (by omega) _ hs0
      rw [cellsV] at hc
      obtain ⟨_, _, hcell⟩ := World.cells?_some hc
      have c0 := hcell 0 (by decide)
      have e0 : (a.add (0 * 3)).add 0 = a := by simp [Addr.add]
      rw [e0] at c0
      exact World.cell?_spot c0
    have ex : ∀ i, ∃ ev : Rep.Event, i < len → ∃ b off, a = ⟨b, off, none⟩ ∧ b < W.heap.size ∧ W.cell? ⟨b, off + i * 3, none⟩ = some (.int .i64 ev.ticks) ∧ W.cell? ⟨b, off + i * 3 + 1, none⟩ = some (.int .i64 ev.what) ∧ W.cell? ⟨b, off + i * 3 + 2, none⟩ = some (.string ⟨ev.data.toArray⟩) ∧ ev.data.length ≤ Bd ∧ -9223372036854775808 ≤ ev.ticks ∧ ev.ticks ≤ 9223372036854775807 := by
      intro i
      by_cases hi : i < len
      · obtain ⟨cs', hc, ht⟩ := hel i (by omega)
        obtain ⟨t, u, s, rfl, hb, _, hs0⟩ := open_event ht
        have hs := hw.2 _ hi _ hs0
        rw [cellsV] at hc
        obtain ⟨_, _, hcell⟩ := World.cells?_some hc
        have c0 := hcell 0 (by decide)
        have c1 := hcell 1 (by decide)
        have c2 := hcell 2 (by decide)
        have hsp := hspot (by omega)
        obtain ⟨b, off, spot⟩ := a
        simp only [] at hsp
        subst hsp
        have ad : ∀ j, ((⟨b, off, none⟩ : Addr).add (i * 3)).add j = ⟨b, off + i * 3 + j, none⟩ := fun j => by
          rw [Addr.add_mid, Addr.add_mid]
        rw [ad] at c0 c1 c2
        refine ⟨⟨t, u, s.data.toList⟩, fun _ => ⟨b, off, rfl, lt_of_cell c0, c0, c1, ?_, ?_, hb.1, hb.2⟩⟩
        · rw [c2]
          show some (Value.string s) = some (Value.string ⟨s.data.toList.toArray⟩)
          rw [nodata]
        · rw [size_len]; exact hs
      · exact ⟨⟨0, 0, []⟩, fun h => absurd h hi⟩
    have hget : ∀ i (hi : i < ((List.range len).map fun i => (ex i).choose).length), ((List.range len).map fun i => (ex i).choose)[i] = (ex i).choose := fun i hi => by simp
    refine ⟨some a, len, m, (List.range len).map fun i => (ex i).choose, e, by simp, hlc, (by omega), fun i hi => ?_, fun ev he => ?_, fun ev he => ?_⟩
    · have hi' : i < len := by simpa using hi
      obtain ⟨b, off, ea, hb, c0, c1, c2, _⟩ := (ex i).choose_spec hi'
      rw [hget i hi]
      exact ⟨b, off, by rw [ea], hb, c0, c1, c2⟩
    · obtain ⟨i, hi, rfl⟩ := List.mem_map.1 he
      obtain ⟨b, off, ea, hb, c0, c1, c2, hd, _⟩ := (ex i).choose_spec (by simpa using hi)
      exact hd
    · obtain ⟨i, hi, rfl⟩ := List.mem_map.1 he
      obtain ⟨b, off, ea, hb, c0, c1, c2, hd, ht⟩ := (ex i).choose_spec (by simpa using hi)
      exact ht
set_option maxRecDepth 100000 in
/-- The dial, opened. -/
theorem open_dial {H : Type} {enc : TypeId × Value → H} {W : World} {base : Nat} {spare : Nat → Bool} {held : Bool} {k : Nat} {cs : List Value} {x : DataW H × List MemPlace} (hsp : ∀ b, spare b = true) (h : DataW.trod enc Tryz.prog W base spare held k 24 cs = some x) (Bd : Nat) (hBd : ∀ z ∈ x.1.weights Tryz.prog 24, z ≤ Bd) :
    ∃ rf ao n cap evs, cs = [.bool rf, .slice ao n cap] ∧ evs.length = n ∧ n ≤ cap ∧ cap ≤ Bd ∧ EvAt W ao evs ∧ (∀ e ∈ evs, e.data.length ≤ Bd) ∧ ∀ e ∈ evs, -9223372036854775808 ≤ e.ticks ∧ e.ticks ≤ 9223372036854775807 := by
  obtain ⟨y0, y1, n, rfl, hl, h0, h1⟩ := trod_struct2 Tryz.underlying24 h
  rw [cellsD] at hl
  match cs, hl with
  | [c0, c1], _ =>
    obtain ⟨rf, e0, _⟩ := DataW.trod_bool Tryz.underlying4 h0
    rw [cellsB] at e0
    rw [cellsL] at h1
    simp at e0
    obtain ⟨ao, n, cap, evs, e1, q⟩ := open_events hsp h1 Bd (fun z hz => hBd z (by
      simp only [DataW.weights, Tryz.underlying24, DataW.weightsEach, List.map_cons, List.mem_append]
      exact .inr (.inl hz)))
    exact ⟨rf, ao, n, cap, evs, by rw [e0, e1], q⟩
end Go.Proofs.YtmodongnganbfaaGreatDoor.ReadsP
