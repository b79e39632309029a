/- Replies: the document's line, at the end of a field: its name and its value are kept. -/
import Derived.Test.YtmodongnganbfaaGreatDoorRdI
namespace Go.Proofs.YtmodongnganbfaaGreatDoor.Rep
open Go.RowKit Go.Proofs.YtmodongnganbfaaGreatDoor Go.Proofs.YtmodongnganbfaaGreatDoor.Sha
theorem strInfo : (Tryz.prog.info? 9).map (fun i => (i.zero, i.size, i.bytes)) = some (some (.string ⟨#[]⟩), 1, 16) := by kernel_rfl
theorem own_alloc {w : World} {b : Nat} {v : Value} {xs : List Value} (h : Own w b v xs) (o : Obj) : Own (w.alloc o) b v xs := h.step ((Below.refl _ _).alloc (Nat.le_refl _) o)
theorem one_cell (w : World) (a : Value) (t : TypeId) : ∀ j u, [a][j]? = some u → (w.alloc (.cells #[a] t)).cell? ((⟨w.heap.size, 0, none⟩ : Addr).add j) = some u := by
  intro j u hj
  match j, hj with
  | 0, hj => simp at hj; subst hj; simp [Addr.add]
theorem turned_below {b : Nat} {w0 w w' : World} {v v' : Value} (hT : Turned w w' v v') (hb : ∀ g, v.ownBlock = some g → b ≤ g) (h0 : Below b w0 w) (hl : b ≤ w0.heap.size) : Below b w0 w' :=
  h0.trans (below_of_only hT.1 hb (Nat.le_trans hl h0.size))
theorem own_slice {w : World} {b : Nat} {v : Value} {xs : List Value} (h : Own w b v xs) : ∃ ao n cap, v = .slice ao n cap := by
  rcases h with ⟨rfl, _⟩ | ⟨g, cap, rfl, _⟩
  · exact ⟨_, _, _, rfl⟩
  · exact ⟨_, _, _, rfl⟩
theorem map_snoc (fs : List (Bytes × Bytes)) (f : Bytes × Bytes) (g : Bytes × Bytes → Bytes) : ((fs ++ [f]).map g).map strL = (fs.map g).map strL ++ [strL (g f)] := by simp
theorem own_not_int {w : World} {mb b : Nat} {v : Value} {fs : List (Bytes × Bytes)} {g : Bytes × Bytes → Bytes} {x : Int} (h : Own w mb v ((fs.map g).map strL)) (h0 : fs = [] → v.ownBlock = none) (hx : w.cell? ⟨b, 0, none⟩ = some (.int .i64 x)) : v.ownBlock ≠ some b := by
  intro e
  cases fs with
  | nil => rw [h0 rfl] at e; cases e
  | cons f fs =>
    rcases h with ⟨_, q⟩ | ⟨g', cap, rfl, _, _, _, hc, _⟩
    · simp at q
    · have eg : g' = b := Option.some.inj e
      have := hc 0 (strL (g f)) rfl
      rw [eg, hx] at this
      simp [strL] at this
set_option maxHeartbeats 4000000 in
set_option maxRecDepth 100000 in
theorem line7_cr_field (mb limit : Nat) (m : Mc) (c : UInt8) (w : World) (h : DM mb limit m w) (hnl : m.name.length ≤ 400) (hvl : m.value.length ≤ 400) (hfl : m.fields.length ≤ 400) (ha : m.at' = 7) (hT : isText c = false) (hM : isNameByte c = false) (h13 : c = 13) (ht : m.tail = false) :
    Calls Tryz.prog 23 #[.pointer (some ⟨mb, 0, none⟩), .int .u8 c.toNat] w fun e w' => e = .returned (.tuple #[]) ∧ Stepped mb limit (some { m with at' := 4, thn := 5, fields := m.fields ++ [(smaller m.name, trimmed m.value)] }) w' ∧ Frm mb w w' := by
  obtain ⟨nv, vv, last, fr, tot, hR, hN, hV, N1', N2', n3, hP⟩ := h.ex
  have n1 := N1'.1
  have n2 := N2'.1
  obtain ⟨ao, an, ac, rfl⟩ := own_slice hN
  obtain ⟨bo, bn, bc, rfl⟩ := own_slice hV
  obtain ⟨i0, hi, hz0, hz1, hz2⟩ := info_parts strInfo
  have c0 : w.cell? ⟨mb, 0, none⟩ = some (.int .i64 7) := by have q := hR.cell 0 _ rfl; rw [ha] at q; exact q
  have c1 : w.cell? ⟨mb, 1, none⟩ = some (.int .i64 (m.thn : Int)) := hR.cell 1 _ rfl
  have f0 := hR.fro 0
  have f1 := hR.fro 1
  have hlt := hR.lt (by simp [encM])
  have HS : Hid (∀ w, Calls Tryz.prog 37 #[.int .u8 c.toNat] w fun e w' => e = .returned (.bool false) ∧ w' = w) := fun w => by have q := seen_walk c w; rw [hT] at q; exact q
  have HM := name_walk c
  rw [hM] at HM
  have HM := HM
  have b13 := u8_eqb 13 13 rfl h13
  obtain ⟨w2, HW2⟩ : ∃ w2, Hid ((w.setCell ⟨mb, 0, none⟩ (.int .i64 4)).setCell ⟨mb, 1, none⟩ (.int .i64 5) = w2) := ⟨_, rfl⟩
  have hR2 : Row w2 mb (encM limit (.slice ao an ac) (.slice bo bn bc) last fr tot { m with at' := 4, thn := 5 }) := by rw [← HW2.out]; exact ((hR.set 0 (.int .i64 4) (by simp [encM])).set 1 (.int .i64 5) (by simp [encM])).cast rfl
  have hK2 : Only (· = mb) w w2 := by rw [← HW2.out]; exact (Only.set (S := (· = mb)) w 0 _ rfl).trans (Only.set (S := (· = mb)) _ 1 _ rfl)
  have hB2 : Below mb w w2 := below_of_only hK2 (fun k hk => by rw [hk]; exact Nat.le_refl _) (Nat.le_of_lt hlt)
  have hN2 := own_only' hN hK2 (fun g hg e => n1 (by rw [hg, e]))
  have hV2 := own_only' hV hK2 (fun g hg e => n2 (by rw [hg, e]))
  have d10 : w.cell? ⟨mb, 10, none⟩ = some (.bool false) := by have q := hR.cell 10 _ rfl; simp only [ht] at q; exact q
  have d5 : w.cell? ⟨mb, 5, none⟩ = some (.string ⟨m.name.toArray⟩) := hR.cell 5 _ rfl
  have hlN : ((m.fields.map (·.1)).map strL).length = m.fields.length := by simp
  have hlV : ((m.fields.map (·.2)).map strL).length = m.fields.length := by simp
  have HlN : Hid (((m.fields.map (·.1)).map strL).length = m.fields.length) := hlN
  have HlV : Hid (((m.fields.map (·.2)).map strL).length = m.fields.length) := hlV
  have HP : Hid (PartOf { m with at' := 4, thn := 5, fields := m.fields ++ [(smaller m.name, trimmed m.value)] } last fr tot) := part_keep hP rfl rfl rfl
  have H3 : Hid (∀ g, (Value.slice ao an ac).ownBlock = some g → (Value.slice bo bn bc).ownBlock ≠ some g) := n3
  have HN2 : Hid (Own w2 mb (.slice ao an ac) ((m.fields.map (·.1)).map strL)) := hN2
  have HV2 : Hid (Own w2 mb (.slice bo bn bc) ((m.fields.map (·.2)).map strL)) := hV2
  have HR2 : Hid (Row w2 mb (encM limit (.slice ao an ac) (.slice bo bn bc) last fr tot { m with at' := 4, thn := 5 })) := hR2
  have HB2 : Hid (Below mb w w2) := hB2
  have HL : Hid (mb < w.heap.size) := hlt
  have HIn : Hid (∀ b, b ≠ mb → (∃ x, w.cell? ⟨b, 0, none⟩ = some (.int .i64 x)) → (Value.slice ao an ac).ownBlock ≠ some b ∧ (Value.slice bo bn bc).ownBlock ≠ some b) := by
    intro b _ hx
    obtain ⟨x, hx⟩ := hx
    exact ⟨own_not_int hN N1'.2 hx, own_not_int hV N2'.2 hx⟩
  have HO2 : Hid (Only (· = mb) w w2) := hK2
  clear hR hN hV hP n3 h ha hT hM h13 ht hR2 hK2 hB2 hN2 hV2 hlN hlV hlt N1' N2'
  go_enter Tryz.func23, Tryz.ntmps23
  go_wp2_with fail
  refine (HS.out w).mono ?_
  rintro e w' ⟨rfl, rfl⟩
  go_wp2_with fail
  refine (HM w').mono ?_
  rintro e w'' ⟨rfl, rfl⟩
  go_wp2_with fail
  rw [HW2.out]
  refine (smaller_list m.name w2 (by omega)).mono ?_
  rintro e w3 ⟨rfl, hB3⟩
  have hs3 := hB3.size
  have HX3 : Hid (∀ b, b < w''.heap.size → b ≠ mb → w3.heap[b]? = w''.heap[b]?) := fun b hb hn => (hB3.block b (Nat.lt_of_lt_of_le hb HO2.out.size)).trans (HO2.out.block b hb hn)
  have HB3 : Hid (Below mb w'' w3) := HB2.out.trans (hB3.mono (by have := HL.out; have := HB2.out.size; omega))
  have HR3 : Hid (Row w3 mb (encM limit (.slice ao an ac) (.slice bo bn bc) last fr tot { m with at' := 4, thn := 5 })) := HR2.out.below (by simp [encM]) hB3
  have HN3 : Hid (Own w3 mb (.slice ao an ac) ((m.fields.map (·.1)).map strL)) := HN2.out.step hB3
  have HV3 : Hid (Own w3 mb (.slice bo bn bc) ((m.fields.map (·.2)).map strL)) := HV2.out.step hB3
  have e6 : w3.cell? ⟨mb, 6, none⟩ = some (.string ⟨m.value.toArray⟩) := HR3.out.cell 6 _ rfl
  have e7 : w3.cell? ⟨mb, 7, none⟩ = some (.slice ao an ac) := HR3.out.cell 7 _ rfl
  have f7 := HR3.out.fro 7
  clear hB3 d10 d5 HR2 HN2 HV2
  go_wp2_with fail
  refine (trimmed_list m.value w3 (by omega)).mono ?_
  rintro e w4 ⟨rfl, rfl⟩
  have hL3 : mb < w4.heap.size := by have := HL.out; have := HB3.out.size; omega
  have HL3 : Hid (mb < w4.heap.size) := hL3
  clear hL3
  go_wp2_with (at_builtin; refine wpList_append_T rfl _ _ 33 rfl mb 9 i0 (.string ⟨#[]⟩) 16 Tryz.underlying33 hi hz0 hz1 hz2 rfl _ _ rfl (own_alloc HN3.out _) ⟨w4.heap.size, 0, none⟩ 1 1 [.string ⟨(smaller m.name).toArray⟩] rfl rfl (one_cell _ _ _) (fun u hu => by simp at hu; subst hu; rfl) (by decide) (by rw [HlN.out]; unfold maxLen; omega) (by rw [HlN.out]; omega) (by simp; have := HL3.out; omega) ?_)
  intro g cap w5 hO5 hT5
  have HO5 : Hid (Own w5 mb (.slice (some ⟨g, 0, none⟩) (m.fields.length + 1) cap) (((m.fields ++ [(smaller m.name, trimmed m.value)]).map (·.1)).map strL)) := by show Own _ _ _ _; rw [map_snoc, List.map_map]; exact hO5
  have HT5 : Hid (Turned (w4.alloc (.cells #[.string ⟨(smaller m.name).toArray⟩] 9)) w5 (.slice ao an ac) (.slice (some ⟨g, 0, none⟩) (m.fields.length + 1) cap)) := hT5
  have HG : Hid (g ≠ mb ∧ ((Value.slice bo bn bc).ownBlock ≠ some g) ∧ g < w5.heap.size) := by
    refine ⟨?_, ?_, own_block_lt hO5 g rfl⟩
    · rcases hT5.2 g rfl with q | q
      · intro e; exact n1 (by rw [q, e])
      · have := HL3.out; simp at q; omega
    · rcases hT5.2 g rfl with q | q
      · exact H3.out g q
      · intro e; have := own_block_lt HV3.out g e; simp at q; omega
  have HR5 : Hid (Row w5 mb (encM limit (.slice ao an ac) (.slice bo bn bc) last fr tot { m with at' := 4, thn := 5 })) := (HR3.out.alloc (by simp [encM]) _).only (by simp [encM]) hT5.1 (fun e => n1 e)
  have HV5 : Hid (Own w5 mb (.slice bo bn bc) ((m.fields.map (·.2)).map strL)) := own_only' (own_alloc HV3.out _) hT5.1 (fun q hq e => H3.out q e hq)
  have HX5 : Hid (∀ b, b < w''.heap.size → b ≠ mb → (∃ x, w''.cell? ⟨b, 0, none⟩ = some (.int .i64 x)) → w5.heap[b]? = w''.heap[b]?) := fun b hb hn hx => by
    have hb4 : b < w4.heap.size := Nat.lt_of_lt_of_le hb HB3.out.size
    have e1 := hT5.1.block b (by simp; omega) (fun e => (HIn.out b hn hx).1 e)
    have e2 : (w4.alloc (.cells #[.string ⟨(smaller m.name).toArray⟩] 9)).heap[b]? = w4.heap[b]? := ((Below.refl w4.heap.size w4).alloc (Nat.le_refl _) _).block b hb4
    exact e1.trans (e2.trans (HX3.out b hb hn))
  have HB5 : Hid (Below mb w'' w5) := turned_below hT5 (fun q hq => own_block_ge HN3.out q hq) (HB3.out.alloc (by have := HL3.out; omega) _) (by have := HL.out; omega)
  have HL5 : Hid (mb < w5.heap.size) := HR5.out.lt (by simp [encM])
  have k7 : w5.cell? ⟨mb, 7, none⟩ = some (.slice ao an ac) := HR5.out.cell 7 _ rfl
  have k8 : w5.cell? ⟨mb, 8, none⟩ = some (.slice bo bn bc) := HR5.out.cell 8 _ rfl
  have g7 := HR5.out.fro 7
  have g8 := HR5.out.fro 8
  have HR6 : Hid (Row (w5.setCell ⟨mb, 7, none⟩ (.slice (some ⟨g, 0, none⟩) (m.fields.length + 1) cap)) mb (encM limit (.slice (some ⟨g, 0, none⟩) (m.fields.length + 1) cap) (.slice bo bn bc) last fr tot { m with at' := 4, thn := 5 })) := (HR5.out.set 7 (.slice (some ⟨g, 0, none⟩) (m.fields.length + 1) cap) (by simp [encM])).cast rfl
  have HV6 : Hid (Own (w5.setCell ⟨mb, 7, none⟩ (.slice (some ⟨g, 0, none⟩) (m.fields.length + 1) cap)) mb (.slice bo bn bc) ((m.fields.map (·.2)).map strL)) := own_only' HV5.out (Only.set (S := (· = mb)) _ 7 _ rfl) (fun q hq e => n2 (by rw [hq, e]))
  have HN6 : Hid (Own (w5.setCell ⟨mb, 7, none⟩ (.slice (some ⟨g, 0, none⟩) (m.fields.length + 1) cap)) mb (.slice (some ⟨g, 0, none⟩) (m.fields.length + 1) cap) (((m.fields ++ [(smaller m.name, trimmed m.value)]).map (·.1)).map strL)) := own_only' HO5.out (Only.set (S := (· = mb)) _ 7 _ rfl) (fun q hq e => HG.out.1 (by have : g = q := Option.some.inj hq; rw [this]; exact e))
  have HB6 : Hid (Below mb w'' (w5.setCell ⟨mb, 7, none⟩ (.slice (some ⟨g, 0, none⟩) (m.fields.length + 1) cap))) := below_set mb 7 _ HB5.out
  obtain ⟨w6, HW6⟩ : ∃ w6, Hid (w5.setCell ⟨mb, 7, none⟩ (.slice (some ⟨g, 0, none⟩) (m.fields.length + 1) cap) = w6) := ⟨_, rfl⟩
  have hsz6 : w6.heap.size = w5.heap.size := by rw [← HW6.out]; simp
  rw [HW6.out] at HR6 HV6 HN6 HB6
  have HX6 : Hid (∀ b, b < w''.heap.size → b ≠ mb → (∃ x, w''.cell? ⟨b, 0, none⟩ = some (.int .i64 x)) → w6.heap[b]? = w''.heap[b]?) := fun b hb hn hx => by
    rw [← HW6.out]
    exact ((Only.set (S := (· = mb)) w5 7 _ rfl).block b (Nat.lt_of_lt_of_le hb HB5.out.size) hn).trans (HX5.out b hb hn hx)
  clear hO5 hT5 HR3 HN3 HV3 e6 e7 f7 HB3 HV5 HB5 HT5
  go_wp2_with (at_builtin; rw [HW6.out]; refine wpList_append_T rfl _ _ 33 rfl mb 9 i0 (.string ⟨#[]⟩) 16 Tryz.underlying33 hi hz0 hz1 hz2 rfl _ _ rfl (own_alloc HV6.out _) ⟨w5.heap.size, 0, none⟩ 1 1 [.string ⟨(trimmed m.value).toArray⟩] rfl rfl (by rw [← hsz6]; exact one_cell _ _ _) (fun u hu => by simp at hu; subst hu; rfl) (by decide) (by rw [HlV.out]; unfold maxLen; omega) (by rw [HlV.out]; omega) (by simp; have := HL5.out; omega) ?_)
  intro g2 cap2 w7 hO7 hT7
  have hG2 : g2 ≠ mb ∧ g2 ≠ g := by
    rcases hT7.2 g2 rfl with q | q
    · exact ⟨fun e => n2 (by rw [q, e]), fun e => HG.out.2.1 (by rw [q, e])⟩
    · have := HL5.out; have := HG.out.2.2; simp at q; omega
  have hR7 : Row w7 mb (encM limit (.slice (some ⟨g, 0, none⟩) (m.fields.length + 1) cap) (.slice bo bn bc) last fr tot { m with at' := 4, thn := 5 }) := (HR6.out.alloc (by simp [encM]) _).only (by simp [encM]) hT7.1 (fun e => n2 e)
  have hN7 := own_only' (own_alloc HN6.out _) hT7.1 (fun q hq e => HG.out.2.1 (by have : g = q := Option.some.inj hq; rw [this]; exact e))
  have hB7 : Below mb w'' w7 := turned_below hT7 (fun q hq => own_block_ge HV6.out q hq) (HB6.out.alloc (by have := HL5.out; omega) _) (by have := HL.out; omega)
  have l8 : w7.cell? ⟨mb, 8, none⟩ = some (.slice bo bn bc) := hR7.cell 8 _ rfl
  have m8 := hR7.fro 8
  have HO : Hid (Only (· = mb) w7 (w7.setCell ⟨mb, 8, none⟩ (.slice (some ⟨g2, 0, none⟩) (m.fields.length + 1) cap2))) := Only.set (S := (· = mb)) _ 8 _ rfl
  have HF : Hid (Stepped mb limit (some { m with at' := 4, thn := 5, fields := m.fields ++ [(smaller m.name, trimmed m.value)] }) (w7.setCell ⟨mb, 8, none⟩ (.slice (some ⟨g2, 0, none⟩) (m.fields.length + 1) cap2))) := by
    refine ⟨⟨.slice (some ⟨g, 0, none⟩) (m.fields.length + 1) cap, .slice (some ⟨g2, 0, none⟩) (m.fields.length + 1) cap2, last, fr, tot, (hR7.set 8 (.slice (some ⟨g2, 0, none⟩) (m.fields.length + 1) cap2) (by simp [encM])).cast rfl, own_only' hN7 HO.out (fun q hq e => HG.out.1 (by have : g = q := Option.some.inj hq; rw [this]; exact e)), ?_, ⟨fun e => HG.out.1 (Option.some.inj e), fun e => by simp at e⟩, ⟨fun e => hG2.1 (Option.some.inj e), fun e => by simp at e⟩, fun q hq e => hG2.2 ((Option.some.inj e).trans (Option.some.inj hq).symm), HP.out⟩⟩
    refine own_only' (v := .slice (some ⟨g2, 0, none⟩) (m.fields.length + 1) cap2) ?_ HO.out (fun q hq e => hG2.1 (by have : g2 = q := Option.some.inj hq; rw [this]; exact e))
    rw [map_snoc, List.map_map]
    exact hO7
  have HXF : Hid (∀ b, b < w''.heap.size → b ≠ mb → (∃ x, w''.cell? ⟨b, 0, none⟩ = some (.int .i64 x)) → (w7.setCell ⟨mb, 8, none⟩ (.slice (some ⟨g2, 0, none⟩) (m.fields.length + 1) cap2)).heap[b]? = w''.heap[b]?) := fun b hb hn hx => by
    have hb6 : b < w6.heap.size := Nat.lt_of_lt_of_le hb HB6.out.size
    have e1 := hT7.1.block b (by simp; omega) (fun e => (HIn.out b hn hx).2 e)
    have e2 : (w6.alloc (.cells #[.string ⟨(trimmed m.value).toArray⟩] 9)).heap[b]? = w6.heap[b]? := ((Below.refl w6.heap.size w6).alloc (Nat.le_refl _) _).block b hb6
    exact (HO.out.block b (Nat.lt_of_lt_of_le hb hB7.size) hn).trans (e1.trans (e2.trans (HX6.out b hb hn hx)))
  have HBF : Hid (Below mb w'' (w7.setCell ⟨mb, 8, none⟩ (.slice (some ⟨g2, 0, none⟩) (m.fields.length + 1) cap2))) := below_set mb 8 _ hB7
  clear hO7 hT7 hR7 hN7 hB7 HO HR6 HV6 HN6 HB6 hG2
  go_wp2
  first | go_end0 | refine bodyPost_ret (results_none rfl _ _ _) rfl ?_
  exact ⟨rfl, HF.out, ⟨HBF.out, HXF.out⟩⟩
end Go.Proofs.YtmodongnganbfaaGreatDoor.Rep
/- Replies: the document's line, whole. -/
namespace Go.Proofs.YtmodongnganbfaaGreatDoor.Rep
open Go.RowKit Go.Proofs.YtmodongnganbfaaGreatDoor Go.Proofs.YtmodongnganbfaaGreatDoor.Sha
theorem name_text (c : UInt8) : isNameByte c = true → isText c = true := by
  have all : ∀ n : Fin 256, isNameByte (UInt8.ofNat n.val) = true → isText (UInt8.ofNat n.val) = true := by decide +kernel
  have h := all ⟨c.toNat, c.toNat_lt⟩
  simp only [UInt8.ofNat_toNat] at h
  exact h
theorem line_walk (mb limit : Nat) (m : Mc) (c : UInt8) (w : World) (h : DM mb limit m w) (g : Good limit m) (ha : m.at' = 3 ∨ m.at' = 5 ∨ m.at' = 6 ∨ m.at' = 7 ∨ m.at' = 9) :
    Calls Tryz.prog 23 #[.pointer (some ⟨mb, 0, none⟩), .int .u8 c.toNat] w fun e w' => e = .returned (.tuple #[]) ∧ Stepped mb limit (line m c) w' ∧ Frm mb w w' := by
  have hlt : mb < w.heap.size := by
    obtain ⟨nv, vv, last, fr, tot, hR, _⟩ := h.ex
    exact hR.lt (by simp [encM])
  have up : ∀ {o : Option Mc}, (Calls Tryz.prog 23 #[.pointer (some ⟨mb, 0, none⟩), .int .u8 c.toNat] w fun e w' => e = .returned (.tuple #[]) ∧ Stepped mb limit o w' ∧ Only (· = mb) w w') → (Calls Tryz.prog 23 #[.pointer (some ⟨mb, 0, none⟩), .int .u8 c.toNat] w fun e w' => e = .returned (.tuple #[]) ∧ Stepped mb limit o w' ∧ Frm mb w w') := fun q => q.mono fun e w' ⟨h1, h2, h3⟩ => ⟨h1, h2, Frm.of_only h3 hlt⟩
  have t13 : isText 13 = false := by decide
  have m13 : isNameByte 13 = false := by decide
  have t58 : isText 58 = true := by decide
  have m58 : isNameByte 58 = false := by decide
  rcases ha with ea | ea | ea | ea | ea
  · by_cases h13 : c = 13
    · have hv : line m c = some { m with at' := 4, thn := 5 } := by simp [line, ea, h13]
      rw [hv]
      exact up (line3_cr mb limit m c w h ea (by rw [h13]; exact t13) (by rw [h13]; exact m13) h13)
    · cases hT : isText c with
      | true =>
        have hv : line m c = some m := by simp [line, ea, h13, hT]
        rw [hv]
        cases hM : isNameByte c with
        | true => exact up (line3_text_true mb limit m c w h ea hT hM h13)
        | false => exact up (line3_text_false mb limit m c w h ea hT hM h13)
      | false =>
        have hv : line m c = none := by simp [line, ea, h13, hT]
        rw [hv]
        have hM : isNameByte c = false := by cases q : isNameByte c with | true => rw [name_text c q] at hT; cases hT | false => rfl
        exact up (line3_no mb limit m c w h ea hT hM h13)
  · by_cases h13 : c = 13
    · have hv : line m c = some { m with at' := 4, thn := 14 } := by simp [line, ea, h13]
      rw [hv]
      exact up (line5_cr mb limit m c w h ea (by rw [h13]; exact t13) (by rw [h13]; exact m13) h13)
    · cases hM : isNameByte c with
      | true =>
        have hv : line m c = some { m with at' := 6, name := [c] } := by simp [line, ea, h13, hM]
        rw [hv]
        exact up (line5_name mb limit m c w h ea (name_text c hM) hM h13)
      | false =>
        have hv : line m c = none := by simp [line, ea, h13, hM]
        rw [hv]
        cases hT : isText c with
        | true => exact up (line5_no_true mb limit m c w h ea hT hM h13)
        | false => exact up (line5_no_false mb limit m c w h ea hT hM h13)
  · cases hM : isNameByte c with
    | true =>
      have hv : line m c = some { m with name := m.name ++ [c] } := by simp [line, ea, hM]
      rw [hv]
      exact up (line6_name mb limit m c w h g.nm ea (name_text c hM) hM)
    | false =>
      by_cases h58 : c = 58
      · have hv : line m c = some { m with at' := 7, value := [] } := by simp [line, ea, h58, m58]
        rw [hv]
        exact up (line6_colon mb limit m c w h ea (by rw [h58]; exact t58) hM h58)
      · have hv : line m c = none := by simp [line, ea, h58, hM]
        rw [hv]
        cases hT : isText c with
        | true => exact up (line6_no_true mb limit m c w h ea hT hM h58)
        | false => exact up (line6_no_false mb limit m c w h ea hT hM h58)
  · by_cases h13 : c = 13
    · have hT : isText c = false := by rw [h13]; exact t13
      have hM : isNameByte c = false := by rw [h13]; exact m13
      cases ht : m.tail with
      | true =>
        have hv : line m c = some { m with at' := 4, thn := 5 } := by simp [line, ea, h13, ht]
        rw [hv]
        exact up (line7_cr_tail mb limit m c w h ea hT hM h13 ht)
      | false =>
        have hv : line m c = some { m with at' := 4, thn := 5, fields := m.fields ++ [(smaller m.name, trimmed m.value)] } := by simp [line, ea, h13, ht]
        rw [hv]
        exact line7_cr_field mb limit m c w h g.nm g.vl g.fl ea hT hM h13 ht
    · cases hT : isText c with
      | true =>
        have hv : line m c = some { m with value := m.value ++ [c] } := by simp [line, ea, h13, hT]
        rw [hv]
        cases hM : isNameByte c with
        | true => exact up (line7_text_true mb limit m c w h g.vl ea hT hM h13)
        | false => exact up (line7_text_false mb limit m c w h g.vl ea hT hM h13)
      | false =>
        have hv : line m c = none := by simp [line, ea, h13, hT]
        rw [hv]
        have hM : isNameByte c = false := by cases q : isNameByte c with | true => rw [name_text c q] at hT; cases hT | false => rfl
        exact up (line7_no mb limit m c w h ea hT hM h13)
  · by_cases h13 : c = 13
    · have hv : line m c = some { m with at' := 4, thn := 10 } := by simp [line, ea, h13]
      rw [hv]
      exact up (line9_cr mb limit m c w h ea (by rw [h13]; exact t13) (by rw [h13]; exact m13) h13)
    · cases hT : isText c with
      | true =>
        have hv : line m c = some m := by simp [line, ea, h13, hT]
        rw [hv]
        cases hM : isNameByte c with
        | true => exact up (line9_text_true mb limit m c w h ea hT hM h13)
        | false => exact up (line9_text_false mb limit m c w h ea hT hM h13)
      | false =>
        have hv : line m c = none := by simp [line, ea, h13, hT]
        rw [hv]
        have hM : isNameByte c = false := by cases q : isNameByte c with | true => rw [name_text c q] at hT; cases hT | false => rfl
        exact up (line9_no mb limit m c w h ea hT hM h13)
end Go.Proofs.YtmodongnganbfaaGreatDoor.Rep
/- Replies: the document's few. -/
namespace Go.Proofs.YtmodongnganbfaaGreatDoor.Rep
open Go.RowKit Go.Proofs.YtmodongnganbfaaGreatDoor Go.Proofs.YtmodongnganbfaaGreatDoor.Sha
/-- few as an int. -/
def fewI (l : Bytes) : Int := match few l with | some n => (n : Int) | none => -1
theorem numOf_snoc (l : Bytes) (c : UInt8) : numOf (l ++ [c]) = 10 * numOf l + (c.toNat - 48) := by simp [numOf]
theorem numOf_lt (l : Bytes) (h : l.all isDigit = true) (hl : l.length ≤ 9) : numOf l < 1000000000 := by
  have := numOf_le l 0 h
  have hp : 10 ^ l.length ≤ 10 ^ 9 := Nat.pow_le_pow_right (by decide) hl
  unfold numOf
  omega
theorem made_ten (l : Bytes) : madeB l [48, 49, 50, 51, 52, 53, 54, 55, 56, 57] = (l.all isDigit && !l.isEmpty) := by
  unfold madeB
  congr 2
  funext c
  exact ten_has c
theorem few_yes {l : Bytes} (h : l.all isDigit = true) (h0 : l ≠ []) (h9 : l.length ≤ 9) : few l = some (numOf l) := by
  unfold few
  have hl : l.length ≠ 0 := fun e => h0 (List.eq_nil_of_length_eq_zero e)
  rw [if_pos (by rw [h]; simp [hl, h9])]
theorem few_no {l : Bytes} (h : l.all isDigit = false ∨ l = [] ∨ 9 < l.length) : few l = none := by
  unfold few
  rw [if_neg]
  intro e
  simp only [Bool.and_eq_true, bne_iff_ne, decide_eq_true_eq] at e
  rcases h with h | h | h
  · rw [h] at e; cases e.2
  · rw [h] at e; exact e.1.1 rfl
  · omega
set_option maxHeartbeats 1000000 in
theorem few_walk (s : ByteArray) (w : World) (hs : s.size ≤ 1000) :
    Calls Tryz.prog 52 #[.string s] w fun e w' => e = .returned (.int .i64 (fewI s.data.toList)) ∧ w' = w := by
  have HMd := made_walk s ⟨#[48, 49, 50, 51, 52, 53, 54, 55, 56, 57]⟩ w (by omega) (by decide)
  have e0 : madeB s.data.toList (⟨#[48, 49, 50, 51, 52, 53, 54, 55, 56, 57]⟩ : ByteArray).data.toList = (s.data.toList.all isDigit && !s.data.toList.isEmpty) := made_ten _
  rw [e0] at HMd
  clear e0
  have hlen := size_len s
  by_cases hok : (s.data.toList.all isDigit && !s.data.toList.isEmpty) = true
  · rw [hok] at HMd
    rw [Bool.and_eq_true] at hok
    have hne : s.data.toList ≠ [] := by have := hok.2; intro e; rw [e] at this; cases this
    by_cases h9 : 9 < s.size
    · have h9' : (9 : Int) < (s.size : Int) := by omega
      have HF : Hid ((-1 : Int) = fewI s.data.toList) := by
        show _ = _
        unfold fewI
        rw [few_no (.inr (.inr (by omega)))]
      clear hok hne hlen
      go_enter Tryz.func52, Tryz.ntmps52
      go_wp2_with fail
      refine HMd.mono ?_
      rintro e w' ⟨rfl, rfl⟩
      go_wp2
      go_ret
      exact ⟨congrArg (fun x => Ending.returned (.int .i64 x)) HF.out, rfl⟩
    · have h9' : ¬ (9 : Int) < (s.size : Int) := by omega
      have HA : Hid (s.data.toList.all isDigit = true) := hok.1
      have HF : Hid ((numOf s.data.toList : Int) = fewI s.data.toList) := by
        show _ = _
        unfold fewI
        rw [few_yes hok.1 hne (by omega)]
      have HL : Hid (s.data.toList.length = s.size) := hlen
      clear hok hne hlen
      go_enter Tryz.func52, Tryz.ntmps52
      go_wp2_with fail
      refine HMd.mono ?_
      rintro e w' ⟨rfl, rfl⟩
      go_wp2
      go_loop [4, 5] (fun v i => ∃ k n : Nat, k ≤ s.size ∧ i = .int .i64 k ∧ v = .int .i64 (n : Int) ∧ Hid (n = numOf (s.data.toList.take k)) ∧ n < 1000000000) (fun _ i => s.size - (intOf i).toNat)
      case atStart => exact ⟨0, 0, Nat.zero_le _, rfl, rfl, rfl, by decide⟩
      case round =>
        obtain ⟨k, n, hk, rfl, rfl, HN, hn⟩ := hrel
        by_cases hlt : k < s.size
        · have HT : Hid (s.data.toList.take (k + 1) = s.data.toList.take k ++ [s[k]]) := take_snoc s k hlt
          have hdig : isDigit s[k] = true := List.all_eq_true.1 HA.out s[k] (List.getElem_mem (l := s.data.toList) (n := k) (by rw [HL.out]; exact hlt))
          have hd1 : 48 ≤ s[k].toNat ∧ s[k].toNat ≤ 57 := by unfold isDigit at hdig; simp at hdig; exact hdig
          obtain ⟨hd1, hd2⟩ := hd1
          have HN' : Hid (10 * n + (s[k].toNat - 48) = numOf (s.data.toList.take (k + 1)) ∧ 10 * n + (s[k].toNat - 48) < 1000000000) := by
            have e1 : 10 * n + (s[k].toNat - 48) = numOf (s.data.toList.take (k + 1)) := by rw [HT.out, numOf_snoc, ← HN.out]
            refine ⟨e1, ?_⟩
            rw [e1]
            refine numOf_lt _ ?_ (by rw [List.length_take]; omega)
            rw [List.all_eq_true]
            intro x hx
            exact List.all_eq_true.1 HA.out x (List.mem_of_mem_take hx)
          have g1 : (48 : Int) ≤ (s[k].toNat : Int) := by omega
          have g2 : (s[k].toNat : Int) ≤ 57 := by omega
          clear hdig
          go_wp2
          go_round
          case rel => exact ⟨k + 1, 10 * n + (s[k].toNat - 48), by omega, by go_num, by go_num, HN'.out.1, HN'.out.2⟩
          case measure => simp [intOf]; omega
        · have HR : Hid ((n : Int) = fewI s.data.toList) := by
            show _ = _
            rw [← HF.out, HN.out, List.take_of_length_le (by rw [HL.out]; omega)]
          go_wp2
          go_ret
          exact ⟨congrArg (fun x => Ending.returned (.int .i64 x)) HR.out, rfl⟩
  · have hok : (s.data.toList.all isDigit && !s.data.toList.isEmpty) = false := by simpa using hok
    rw [hok] at HMd
    have HF : Hid ((-1 : Int) = fewI s.data.toList) := by
      show _ = _
      unfold fewI
      rw [few_no]
      rw [Bool.and_eq_false_iff] at hok
      rcases hok with h | h
      · exact .inl h
      · right; left
        cases q : s.data.toList with
        | nil => rfl
        | cons a l => rw [q] at h; cases h
    clear hok hlen
    go_enter Tryz.func52, Tryz.ntmps52
    go_wp2_with fail
    refine HMd.mono ?_
    rintro e w' ⟨rfl, rfl⟩
    go_wp2
    go_ret
    exact ⟨congrArg (fun x => Ending.returned (.int .i64 x)) HF.out, rfl⟩
end Go.Proofs.YtmodongnganbfaaGreatDoor.Rep
