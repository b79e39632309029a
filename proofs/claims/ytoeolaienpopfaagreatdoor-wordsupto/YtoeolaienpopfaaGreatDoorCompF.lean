/- slices.CompareFunc at marks, names.compareVersions: each tells the plain order. -/
import Derived.Test.YtoeolaienpopfaaGreatDoorComp
namespace Go.Proofs.YtoeolaienpopfaaGreatDoor
open Go.RowKit

theorem flat_at : ∀ (L : List ByteArray) (k j : Nat) (h : k < L.length), j < 3 → (L.flatMap mcell)[k * 3 + j]? = (mcell L[k])[j]?
  | [], k, j, h, _ => by simp at h
  | b :: L, 0, j, _, hj => by
    rw [List.flatMap_cons, List.getElem?_append_left (by simp [mcell]; omega)]; simp
  | b :: L, k + 1, j, h, hj => by
    rw [List.flatMap_cons, List.getElem?_append_right (by simp [mcell]; omega)]
    have := flat_at L k j (by simpa using h) hj
    have e : (k + 1) * 3 + j - (mcell b).length = k * 3 + j := by simp [mcell]; omega
    rw [e, this]; simp
/-- The cells of a mark in a slice of marks. -/
theorem MarksAt.at {w : World} {v : Value} {L : List ByteArray} (h : MarksAt w v L) (hl : 0 < L.length) : ∃ g cap, v = .slice (some ⟨g, 0, none⟩) L.length cap ∧ g < w.heap.size ∧ L.length ≤ cap ∧ ∀ k (hk : k < L.length),
    w.cell? ⟨g, k * 3, none⟩ = some (.string L[k]) ∧ w.cell? ⟨g, k * 3 + 1, none⟩ = some (.bool (isNum L[k].data.toList)) ∧ w.cell? ⟨g, k * 3 + 2, none⟩ = some (.int .i64 (if isNum L[k].data.toList then val L[k].data.toList else 0)) := by
  obtain ⟨base, _, h⟩ := h
  have h2 := h
  rcases h.2 with ⟨rfl, h0⟩ | ⟨g, cap, cur, rfl, _, hg, hc, _⟩
  · omega
  · refine ⟨g, cap, rfl, lt_of_block hg, hc, fun k hk => ?_⟩
    have c := fun j (hj : j < 3) => h2.cellAt (k * 3 + j) (by omega)
    refine ⟨?_, ?_, ?_⟩
    · have := c 0 (by decide); rw [flat_at L k 0 hk (by decide)] at this; simpa [mcell] using this
    · have := c 1 (by decide); rw [flat_at L k 1 hk (by decide)] at this; simpa [mcell] using this
    · have := c 2 (by decide); rw [flat_at L k 2 hk (by decide)] at this; simpa [mcell] using this

theorem drop_map (L : List ByteArray) (k : Nat) (h : k < L.length) : (L.drop k).map (fun b => b.data.toList) = L[k].data.toList :: (L.drop (k + 1)).map (fun b => b.data.toList) := by
  rw [List.drop_eq_getElem_cons h]; rfl
theorem drop_end (L : List ByteArray) (k : Nat) (h : ¬ k < L.length) : (L.drop k).map (fun b => b.data.toList) = [] := by
  rw [List.drop_of_length_le (by omega)]; rfl

set_option maxHeartbeats 1000000 in
theorem compareFunc_walk (v u : Value) (L M : List ByteArray) (w : World) (hv : MarksAt w v L) (hu : MarksAt w u M) (hl : 0 < L.length) (hm : 0 < M.length) :
    Calls Tryz.prog 55 #[v, u, .func (.func 56) #[] #[]] w fun e w' => e = .returned (.int .i64 (lexC cmpM (L.map (fun b => b.data.toList)) (M.map (fun b => b.data.toList)))) ∧ Grw w.heap.size w w' := by
  have hll : L.length ≤ 101 := by obtain ⟨_, h, _⟩ := hv; exact h
  obtain ⟨g, cap, rfl, hg, hcap, hA⟩ := hv.at hl
  obtain ⟨g', cap', rfl, hg', hcap', hB⟩ := hu.at hm
  have HA : Hid (∀ k (hk : k < L.length), w.cell? ⟨g, k * 3, none⟩ = some (.string L[k]) ∧ w.cell? ⟨g, k * 3 + 1, none⟩ = some (.bool (isNum L[k].data.toList)) ∧ w.cell? ⟨g, k * 3 + 2, none⟩ = some (.int .i64 (if isNum L[k].data.toList then val L[k].data.toList else 0))) := hA
  have HB : Hid (∀ k (hk : k < M.length), w.cell? ⟨g', k * 3, none⟩ = some (.string M[k]) ∧ w.cell? ⟨g', k * 3 + 1, none⟩ = some (.bool (isNum M[k].data.toList)) ∧ w.cell? ⟨g', k * 3 + 2, none⟩ = some (.int .i64 (if isNum M[k].data.toList then val M[k].data.toList else 0))) := hB
  clear hA hB hv hu
  go_enter Tryz.func55, Tryz.ntmps55
  go_wp2
  go_loopw [13] (fun i wr => ∃ k : Nat, k ≤ L.length ∧ k ≤ M.length ∧ i = .int .i64 k ∧ Grw w.heap.size w wr ∧ Hid (lexC cmpM (L.map (fun b => b.data.toList)) (M.map (fun b => b.data.toList)) = lexC cmpM ((L.drop k).map (fun b => b.data.toList)) ((M.drop k).map (fun b => b.data.toList)))) (fun i _ => L.length - (intOf i).toNat)
  case atStart => exact ⟨0, Nat.zero_le _, Nat.zero_le _, rfl, Grw.refl _ _, rfl⟩
  case round =>
    obtain ⟨k, hk, hk', rfl, hBw, HX⟩ := hrel
    have hsz := hBw.size
    by_cases hlt : k < L.length
    · obtain ⟨e0, e1, e2⟩ := HA.out k hlt
      have c0 := cell_below hBw.below e0
      have c1 := cell_below hBw.below e1
      have c2 := cell_below hBw.below e2
      clear e0 e1 e2
      obtain ⟨bb, hbb⟩ : ∃ b, b = isNum L[k].data.toList := ⟨_, rfl⟩
      obtain ⟨vv, hvv⟩ : ∃ v, v = (if isNum L[k].data.toList then val L[k].data.toList else 0) := ⟨_, rfl⟩
      have HM1 : Hid (mval L[k] = .agg #[.string L[k], .bool bb, .int .i64 vv]) := by show _ = _; rw [mval, hbb, hvv]
      rw [← hbb] at c1
      rw [← hvv] at c2
      clear hbb hvv
      have hlg : g < wr.heap.size := by omega
      have hlg' : g' < wr.heap.size := by omega
      by_cases hlt' : k < M.length
      · obtain ⟨e0, e1, e2⟩ := HB.out k hlt'
        have d0 := cell_below hBw.below e0
        have d1 := cell_below hBw.below e1
        have d2 := cell_below hBw.below e2
        clear e0 e1 e2
        obtain ⟨bb', hbb⟩ : ∃ b, b = isNum M[k].data.toList := ⟨_, rfl⟩
        obtain ⟨vv', hvv⟩ : ∃ v, v = (if isNum M[k].data.toList then val M[k].data.toList else 0) := ⟨_, rfl⟩
        have HM2 : Hid (mval M[k] = .agg #[.string M[k], .bool bb', .int .i64 vv']) := by show _ = _; rw [mval, hbb, hvv]
        rw [← hbb] at d1
        rw [← hvv] at d2
        clear hbb hvv
        have hcm := compareMarks_walk L[k] M[k]
        rw [HM1.out, HM2.out] at hcm
        have HCM : Hid (∀ w, Calls Tryz.prog 56 #[.agg #[.string L[k], .bool bb, .int .i64 vv], .agg #[.string M[k], .bool bb', .int .i64 vv']] w fun e w' => e = .returned (.int .i64 (cmpM L[k].data.toList M[k].data.toList)) ∧ Grw w.heap.size w w') := hcm
        have HL : Hid (lexC cmpM ((L.drop k).map (fun b => b.data.toList)) ((M.drop k).map (fun b => b.data.toList)) = if cmpM L[k].data.toList M[k].data.toList = 0 then lexC cmpM ((L.drop (k + 1)).map (fun b => b.data.toList)) ((M.drop (k + 1)).map (fun b => b.data.toList)) else cmpM L[k].data.toList M[k].data.toList) := by
          show _ = _
          rw [drop_map L k hlt, drop_map M k hlt']; rfl
        clear hcm
        go_wp2_with fail
        refine (HCM.out _).mono ?_
        rintro e w1 ⟨rfl, hb1⟩
        have hB1 : Grw w.heap.size w w1 := ((hBw.alloc hsz _).alloc (by simp; omega) _).trans (hb1.mono (by simp; omega))
        clear hb1
        generalize hc : cmpM L[k].data.toList M[k].data.toList = c at *
        clear hc
        by_cases h0 : c = 0
        · subst h0
          go_wp2
          go_roundw
          case rel => exact ⟨k + 1, by omega, by omega, by go_num, hB1, by show _ = _; rw [HX.out, HL.out]; rfl⟩
          case measure => simp [intOf]; omega
        · have hb : (c == 0) = false := by simpa using h0
          have H0 : Hid (¬ c = 0) := h0
          clear h0
          go_wp2
          go_ret
          exact ⟨by rw [HX.out, HL.out, if_neg H0.out]; rfl, hB1⟩
      · have HL : Hid (lexC cmpM ((L.drop k).map (fun b => b.data.toList)) ((M.drop k).map (fun b => b.data.toList)) = 1) := by
          show _ = _
          rw [drop_map L k hlt, drop_end M k hlt']; rfl
        go_wp2
        go_ret
        exact ⟨by rw [HX.out, HL.out]; rfl, hBw.alloc hsz _⟩
    · by_cases hlt' : k < M.length
      · have HL : Hid (lexC cmpM ((L.drop k).map (fun b => b.data.toList)) ((M.drop k).map (fun b => b.data.toList)) = -1) := by
          show _ = _
          rw [drop_map M k hlt', drop_end L k hlt]; rfl
        have hlm : L.length < M.length := by omega
        go_wp2
        go_ret
        exact ⟨by rw [HX.out, HL.out]; rfl, hBw⟩
      · have HL : Hid (lexC cmpM ((L.drop k).map (fun b => b.data.toList)) ((M.drop k).map (fun b => b.data.toList)) = 0) := by
          show _ = _
          rw [drop_end M k hlt', drop_end L k hlt]; rfl
        have hlm : ¬ L.length < M.length := by omega
        go_wp2
        go_ret
        exact ⟨by rw [HX.out, HL.out]; rfl, hBw⟩
end Go.Proofs.YtoeolaienpopfaaGreatDoor
