/- satchellaw's Texts. -/
import Derived.Test.YtfngjfnakokgmaaGreatDoorBookFToTextQ
import Derived.Test.YtfngjfnakokgmaaGreatDoorTextIToRTSkip
import Derived.Test.YtfngjfnakokgmaaGreatDoorRTInfo
namespace Go.Proofs.YtfngjfnakokgmaaGreatDoor.Bk
open Go.RowKit Go.Proofs.YtfngjfnakokgmaaGreatDoor.Sha Go.Proofs.YtfngjfnakokgmaaGreatDoor Go.Proofs.YtfngjfnakokgmaaGreatDoor.Txt
theorem face_list (s : ByteArray) (w : World) (a0 a1 : Addr) (m : Int) (hs : s.size ≤ 1048576) (hW : VerW a0 a1 m w) :
    Calls Tryz.prog 6 #[.string s] w fun e w' => LPost s w e w' := by
  go_enter Tryz.func6, Tryz.ntmps6
  go_wp2_with fail
  refine (list_walk s w a0 a1 m hs hW).mono ?_
  rintro e w' ⟨v, T, rfl, h⟩
  go_wp2
  go_ret
  exact ⟨v, T, rfl, h⟩
theorem num_walk (n : Int) (w : World) : Calls Tryz.prog 11 #[.int .i64 n] w fun e w' => e = .returned (.int .i64 n) ∧ w' = w := by
  go_enter Tryz.func11, Tryz.ntmps11
  go_wp2
  go_ret
  exact ⟨rfl, rfl⟩
theorem only_below {S : Nat → Prop} {w w' : World} {B : Nat} (h : Only S w w') (hB : B ≤ w.heap.size) (hs : ∀ k, S k → B ≤ k) : Below B w w' :=
  ⟨h.os, h.tape, h.output, h.size, fun i hi => h.block i (by omega) (fun e => by have := hs i e; omega)⟩
theorem same_list {T U : List ByteArray} {L : List (List UInt8)} (h : T.map (·.data.toList) = L) (k : U.map (·.data.toList) = L) : T = U := by
  rw [← k] at h
  refine List.map_inj_right (f := fun b : ByteArray => b.data.toList) (fun a b e => ?_) |>.1 h
  cases a; cases b
  simpa using e
theorem infoA_form (o : Option (Bytes × Bytes)) : ∃ a b n, infoA o = .tuple #[.agg #[.string a, .string b], .int .i64 n] := by
  cases o with
  | none => exact ⟨_, _, _, rfl⟩
  | some p => exact ⟨_, _, _, rfl⟩
abbrev book15 : Obj := .cells #[.slice none 0 0, .slice none 0 0, .slice none 0 0, .slice none 0 0, .slice none 0 0, .slice none 0 0, .slice none 0 0, .slice none 0 0, .slice none 0 0, .slice none 0 0, .slice none 0 0, .slice none 0 0, .slice none 0 0, .slice none 0 0, .slice none 0 0] 31
theorem book_new (w : World) : BK w.heap.size (.slice none 0 0) [] (w.alloc book15) := by
  refine ⟨fun i hi hn => ?_, by simp [book15], fun i => by simp [book15], .inl ⟨rfl, rfl⟩, fun _ => rfl, (by intro e; cases e), fun i hi => (by simp at hi)⟩
  match i, hi with
  | 0, _ => simp [book15]
  | 1, _ => simp [book15]
  | 2, _ => simp [book15]
  | 3, _ => exact absurd rfl hn
  | 4, _ => simp [book15]
  | 5, _ => simp [book15]
  | 6, _ => simp [book15]
  | 7, _ => simp [book15]
  | 8, _ => simp [book15]
  | 9, _ => simp [book15]
  | 10, _ => simp [book15]
  | 11, _ => simp [book15]
  | 12, _ => simp [book15]
  | 13, _ => simp [book15]
  | 14, _ => simp [book15]
theorem BK.below {bb : Nat} {vw : Value} {E : List Value} {w w' : World} (h : BK bb vw E w) (hb : Below w.heap.size w w') : BK bb vw E w' := h.only (Only.of_below (S := fun _ => False) hb) (fun e => e) (fun _ _ e => e) (fun _ _ _ _ _ _ _ _ _ e => e)
theorem rm_lt {m : ByteArray} {v : Value} {w : World} (h : RM m v w) {ao : Option Addr} {n cap g : Nat} (e : v = .slice ao n cap) (hn : 0 < n) (hg : ao = some ⟨g, 0, none⟩) : g < w.heap.size := by
  obtain ⟨ao', n', cap', e', _, h⟩ := h
  rw [e] at e'
  injection e' with e1 e2 e3
  subst e1 e2 e3
  obtain ⟨g', e4, e5, _⟩ := h hn
  rw [hg] at e4
  injection e4 with e4
  injection e4 with e4
  subst e4
  exact e5
theorem bk_lt {bb : Nat} {vw : Value} {E : List Value} {w : World} (h : BK bb vw E w) : ∀ e ∈ E, ∀ ao n cap g, e = .slice ao n cap → 0 < n → ao = some ⟨g, 0, none⟩ → g < w.heap.size := by
  intro e he ao n cap g h1 h2 h3
  obtain ⟨i, hi, rfl⟩ := List.getElem_of_mem he
  exact rm_lt (h.rd i hi) h1 h2 h3
theorem put_at {base : Nat} {v : Value} {T : List ByteArray} {w : World} (h : Put base v T w) : ∀ g, v.ownBlock = some g → base ≤ g ∧ g < w.heap.size := by
  intro g hg
  by_cases hT : T = []
  · have := h.none' hT
    subst this
    cases hg
  · obtain ⟨g', cap, rfl, h1, h2, _, _⟩ := h.row hT
    simp only [Value.ownBlock, Option.some.injEq] at hg
    subst hg
    exact ⟨h1, h2⟩
set_option maxHeartbeats 4000000 in
set_option maxRecDepth 100000 in
theorem law_texts (s : ByteArray) (ad : Nat → Addr) (m : Int) (w : World) (hs : s.size ≤ 1048576) (hW : InfoW ad m w) :
    Calls Tryz.prog 3 #[.string s] w fun e w' => e = .returned (.bool true) ∧ Below w.heap.size w w' := by
  have HW : Hid (InfoW ad m w) := hW
  obtain ⟨x, y, z, hf⟩ := infoA_form (infoP s.data.toList)
  clear hW
  go_enter Tryz.func3, Tryz.ntmps3
  obtain ⟨wA, HWA⟩ : ∃ wA, Hid (w.alloc book15 = wA) := ⟨_, rfl⟩
  have hbA : Below w.heap.size w wA := by rw [← HWA.out]; exact below_one w _
  have hKA : BK w.heap.size (.slice none 0 0) [] wA := by rw [← HWA.out]; exact book_new w
  go_wp2_with fail
  rw [HWA.out]
  refine (face_info s ad m wA (by omega) (HW.out.below hbA)).mono ?_
  rintro e w1 ⟨rfl, hb1⟩
  rw [hf]
  obtain ⟨w2, HW2⟩ : ∃ w2, Hid (w1.alloc (.cells #[.string x, .string y] 33) = w2) := ⟨_, rfl⟩
  have hb2 : Below w1.heap.size w1 w2 := by rw [← HW2.out]; exact below_one w1 _
  have hs2 : w2.heap.size = w1.heap.size + 1 := by rw [← HW2.out]; simp
  have x0 : w2.cell? ⟨w1.heap.size, 0, none⟩ = some (.string x) := by rw [← HW2.out]; simp
  have x1 : w2.cell? ⟨w1.heap.size, 1, none⟩ = some (.string y) := by rw [← HW2.out]; simp
  go_wp2_with fail
  rw [HW2.out]
  refine (ref_info s w2 hs).mono ?_
  rintro e w3 ⟨rfl, hb3⟩
  rw [hf]
  obtain ⟨w4, HW4⟩ : ∃ w4, Hid (w3.alloc (.cells #[.string x, .string y] 33) = w4) := ⟨_, rfl⟩
  have hb4 : Below w3.heap.size w3 w4 := by rw [← HW4.out]; exact below_one w3 _
  have hs4 : w4.heap.size = w3.heap.size + 1 := by rw [← HW4.out]; simp
  have y0 : w4.cell? ⟨w3.heap.size, 0, none⟩ = some (.string x) := by rw [← HW4.out]; simp
  have y1 : w4.cell? ⟨w3.heap.size, 1, none⟩ = some (.string y) := by rw [← HW4.out]; simp
  have hbw1 : Below w.heap.size w w1 := hbA.trans (hb1.mono hbA.size)
  have hbw2 : Below w.heap.size w w2 := hbw1.trans (hb2.mono hbw1.size)
  have hbw3 : Below w.heap.size w w3 := hbw2.trans (hb3.mono hbw2.size)
  have hbw4 : Below w.heap.size w w4 := hbw3.trans (hb4.mono hbw3.size)
  have hK4 : BK w.heap.size (.slice none 0 0) [] w4 := (((hKA.below hb1).below hb2).below hb3).below hb4
  have hlw := hKA.lt
  have zA := hb1.size
  have z3 := hb3.size
  have HX : Hid ((w4.cell? ⟨w1.heap.size, 0, none⟩ = some (.string x) ∧ w4.cell? ⟨w1.heap.size, 1, none⟩ = some (.string y)) ∧ w4.cell? ⟨w3.heap.size, 0, none⟩ = some (.string x) ∧ w4.cell? ⟨w3.heap.size, 1, none⟩ = some (.string y)) := by
    refine ⟨⟨?_, ?_⟩, y0, y1⟩
    · rw [hb4.cell (p := ⟨w1.heap.size, 0, none⟩) (by show w1.heap.size < _; omega), hb3.cell (p := ⟨w1.heap.size, 0, none⟩) (by show w1.heap.size < _; omega)]; exact x0
    · rw [hb4.cell (p := ⟨w1.heap.size, 1, none⟩) (by show w1.heap.size < _; omega), hb3.cell (p := ⟨w1.heap.size, 1, none⟩) (by show w1.heap.size < _; omega)]; exact x1
  clear x0 x1 y0 y1 hKA hb1 hb2 hb3 hb4 hbw1 hbw2 hbw3 hf hbA
  go_wp2_with fail
  rw [HW4.out]
  refine (face_list s w4 (ad 0) (ad 4) m hs (HW.out.ver.below hbw4)).mono ?_
  rintro e w5 ⟨l, T, rfl, hT, hl, hb5, hl0, hTl⟩
  have HT : Hid (T.map (·.data.toList) = listP s.data.toList) := hT
  have HL : Hid (Own w5 w4.heap.size l (T.map strv)) := hl
  have HL0 : Hid (T = [] → l = .slice none 0 0) := hl0
  have z5 := hb5.size
  have hbw5 : Below w.heap.size w w5 := hbw4.trans (hb5.mono hbw4.size)
  clear hT hl hl0
  go_wp2_with fail
  refine (face_list s w5 (ad 0) (ad 4) m hs (HW.out.ver.below hbw5)).mono ?_
  rintro e w6 ⟨n, T', rfl, hT, hl, hb6, hl0, _⟩
  have eT : T' = T := same_list hT HT.out
  rw [eT] at hl hl0
  have HN : Hid (Own w6 w5.heap.size n (T.map strv)) := hl
  have HN0 : Hid (T = [] → n = .slice none 0 0) := hl0
  have z6 := hb6.size
  clear hT hl hl0 eT
  go_wp2_with fail
  refine (rlist_walk s w6 hs).mono ?_
  rintro e w7 ⟨mv, U, rfl, hU, hP, _, hb7⟩
  have eT : U = T := same_list hU HT.out
  rw [eT] at hP
  have HM : Hid (RT T mv w7) := put_rt hP
  have HMg : Hid (∀ g, mv.ownBlock = some g → w6.heap.size ≤ g ∧ g < w7.heap.size) := put_at hP
  have z7 := hb7.size
  clear hU hP eT
  go_wp2_with fail
  refine (sameTexts_walk T n mv w7 hTl (own_rt (HN.out.step hb7)) HM.out).mono ?_
  rintro e w8 ⟨rfl, hb8⟩
  have z8 := hb8.size
  have hb58 : Below w5.heap.size w5 w8 := (hb6.trans (hb7.mono z6)).trans (hb8.mono (by omega))
  go_wp2_with fail
  refine (sameTexts_walk T l mv w8 hTl (own_rt (HL.out.step hb58)) (HM.out.below hb8)).mono ?_
  rintro e w9 ⟨rfl, hb9⟩
  have z9 := hb9.size
  have hb59 : Below w5.heap.size w5 w9 := hb58.trans (hb9.mono (by omega))
  have hb69 : Below w6.heap.size w6 w9 := (hb7.trans (hb8.mono z7)).trans (hb9.mono (by omega))
  have hb79 : Below w7.heap.size w7 w9 := hb8.trans (hb9.mono z8)
  have hb49 : Below w4.heap.size w4 w9 := hb5.trans (hb59.mono z5)
  have hK9 : BK w.heap.size (.slice none 0 0) [] w9 := hK4.below hb49
  have hL9 : Own w9 w4.heap.size l (T.map strv) := HL.out.step hb59
  have hN9 : Own w9 w5.heap.size n (T.map strv) := HN.out.step hb69
  have lge := own_block_ge HL.out
  have llt := own_lt HL.out
  have nge := own_block_ge HN.out
  have nlt := own_lt HN.out
  have hM9 : RT T mv w9 := HM.out.below hb79
  have H9 : Hid ((∀ g, l.ownBlock = some g → w4.heap.size ≤ g) ∧ (∀ g, l.ownBlock = some g → g < w5.heap.size) ∧ (∀ g, n.ownBlock = some g → w5.heap.size ≤ g) ∧ (∀ g, n.ownBlock = some g → g < w6.heap.size)) := ⟨lge, llt, nge, nlt⟩
  have HN9 : Hid (Own w9 w5.heap.size n (T.map strv)) := hN9
  have HM9 : Hid (RT T mv w9) := hM9
  have zw : w.heap.size < w4.heap.size := by omega
  clear lge llt nge nlt hN9 hM9 hb5 hb6 hb7 hb8 hb9 hb58 hb59 hb69 hb79 hK4
  go_wp2_with fail
  refine (texts_walk 0 (by decide) w.heap.size (.slice none 0 0) l [] T w9 rfl hK9 (own_mono hL9 (Nat.zero_le _)) HL0.out hTl (fun e he => by cases he)).mono ?_
  rintro e w10 ⟨rfl, vw1, t1, t2, t3, hK10, hO10, hnew10, hvw10⟩
  have z10 := hO10.size
  have hN10 : Own w10 w5.heap.size n (T.map strv) := own_only' HN9.out hO10 (fun g hg hS => by
    obtain ⟨q1, q2, q3, q4⟩ := H9.out
    have := q3 g hg
    rcases hS with e | e | e
    · omega
    · have := q2 g e; omega
    · cases e)
  have hM10 : RT T mv w10 := HM9.out.only hO10 (fun g hg hS => by
    obtain ⟨q1, q2, q3, q4⟩ := H9.out
    have := HMg.out g hg
    rcases hS with e | e | e
    · omega
    · have := q2 g e; omega
    · cases e)
  have hQ10 : Only (fun k => k = w.heap.size) w4 w10 := only_then (Only.of_below hb49) hO10 (fun k hS => by
    obtain ⟨q1, q2, q3, q4⟩ := H9.out
    rcases hS with e | e | e
    · exact .inl e
    · exact .inr (q1 k e)
    · cases e)
  have hsep10 : ∀ e ∈ [] ++ [l, t1, t2, t3], ∀ ao k cap g, e = .slice ao k cap → 0 < k → ao = some ⟨g, 0, none⟩ → n.ownBlock ≠ some g := fun e he ao k cap g h1 h2 h3 hg => by
    obtain ⟨q1, q2, q3, q4⟩ := H9.out
    have a1 := q3 g hg
    have a2 := q4 g hg
    rcases hnew10 e (by simpa using he) g (by rw [h1, h3]; rfl) with e | e
    · have := q2 g e; omega
    · omega
  have HM10 : Hid (RT T mv w10) := hM10
  have HQ10 : Hid (Only (fun k => k = w.heap.size) w4 w10) := hQ10
  have hvw1 : ∀ g, vw1.ownBlock = some g → w9.heap.size ≤ g := fun g hg => (hvw10 g hg).elim (fun e => by cases e) id
  have HV1 : Hid (∀ g, vw1.ownBlock = some g → w9.heap.size ≤ g) := hvw1
  clear hM10 hQ10 hvw1 hvw10 hnew10 hO10 hK9 hL9 hb49
  go_wp2_with fail
  refine (texts_walk 1 (by decide) w.heap.size vw1 n ([] ++ [l, t1, t2, t3]) T w10 rfl hK10 (own_mono hN10 (Nat.zero_le _)) HN0.out hTl hsep10).mono ?_
  rintro e w11 ⟨rfl, vw2, u1, u2, u3, hK11, hO11, hnew11, hvw11⟩
  have z11 := hO11.size
  have hM11 : RT T mv w11 := HM10.out.only hO11 (fun g hg hS => by
    obtain ⟨q1, q2, q3, q4⟩ := H9.out
    have := HMg.out g hg
    rcases hS with e | e | e
    · omega
    · have := q4 g e; omega
    · have := HV1.out g e; omega)
  have hQ11 : Only (fun k => k = w.heap.size) w4 w11 := only_then HQ10.out hO11 (fun k hS => by
    obtain ⟨q1, q2, q3, q4⟩ := H9.out
    rcases hS with e | e | e
    · exact .inl e
    · right; have := q3 k e; omega
    · right; have := HV1.out k e; omega)
  have hV2 : ∀ g, vw2.ownBlock = some g → w9.heap.size ≤ g := fun g hg => (hvw11 g hg).elim (HV1.out g) (fun e => by omega)
  have HV2 : Hid (∀ g, vw2.ownBlock = some g → w9.heap.size ≤ g) := hV2
  have hbw11 : Below w.heap.size w w11 := hbw4.trans (only_below hQ11 (by omega) (fun k e => by omega))
  have HM11 : Hid (RT T mv w11) := hM11
  have HQ11 : Hid (Only (fun k => k = w.heap.size) w4 w11) := hQ11
  have HK11 : Hid (BK w.heap.size vw2 ([] ++ [l, t1, t2, t3] ++ [n, u1, u2, u3]) w11) := hK11
  clear hM11 hQ11 hV2 hvw11 hnew11 hO11 hK10 hN10 hsep10 hK11
  go_wp2_with fail
  refine (face_list s w11 (ad 0) (ad 4) m hs (HW.out.ver.below hbw11)).mono ?_
  rintro e w12 ⟨k, T', rfl, hT, hl, hb12, hl0, _⟩
  have eT : T' = T := same_list hT HT.out
  rw [eT] at hl hl0
  have HKk : Hid (Own w12 w11.heap.size k (T.map strv)) := hl
  have HK0 : Hid (T = [] → k = .slice none 0 0) := hl0
  have z12 := hb12.size
  clear hT hl hl0 eT
  go_wp2_with fail
  refine (sameTexts_walk T k mv w12 hTl (own_rt HKk.out) (HM11.out.below hb12)).mono ?_
  rintro e w13 ⟨rfl, hb13⟩
  have z13 := hb13.size
  have hb1113 : Below w11.heap.size w11 w13 := hb12.trans (hb13.mono z12)
  have hK13 : Own w13 w11.heap.size k (T.map strv) := HKk.out.step hb13
  have hB13 : BK w.heap.size vw2 ([] ++ [l, t1, t2, t3] ++ [n, u1, u2, u3]) w13 := HK11.out.below hb1113
  have hsep13 : ∀ e ∈ [] ++ [l, t1, t2, t3] ++ [n, u1, u2, u3], ∀ ao n cap g, e = .slice ao n cap → 0 < n → ao = some ⟨g, 0, none⟩ → k.ownBlock ≠ some g := fun e he ao n cap g h1 h2 h3 hg => by
    have a1 := bk_lt HK11.out e he ao n cap g h1 h2 h3
    have a2 := own_block_ge hK13 g hg
    omega
  have hkge := own_block_ge hK13
  have hQ13 : Only (fun k => k = w.heap.size) w4 w13 := HQ11.out.trans (Only.of_below hb1113)
  have HKge : Hid (∀ g, k.ownBlock = some g → w11.heap.size ≤ g) := hkge
  have HQ13 : Hid (Only (fun k => k = w.heap.size) w4 w13) := hQ13
  clear hkge hQ13 hb12 hb13 hb1113
  go_wp2_with fail
  refine (texts_walk 2 (by decide) w.heap.size vw2 k ([] ++ [l, t1, t2, t3] ++ [n, u1, u2, u3]) T w13 rfl hB13 (own_mono hK13 (Nat.zero_le _)) HK0.out hTl hsep13).mono ?_
  rintro e w14 ⟨rfl, vw3, r1, r2, r3, hK14, hO14, _, _⟩
  have z14 := hO14.size
  have hQ14 : Only (fun k => k = w.heap.size) w4 w14 := only_then HQ13.out hO14 (fun j hS => by
    rcases hS with e | e | e
    · exact .inl e
    · right; have := HKge.out j e; omega
    · right; have := HV2.out j e; omega)
  have HQ14 : Hid (Only (fun k => k = w.heap.size) w4 w14) := hQ14
  clear hQ14 hO14 hB13 hK13 hsep13
  go_wp2_with fail
  refine (looks_walk w.heap.size vw3 _ w14 (by simp) hK14).mono ?_
  rintro e w15 ⟨rfl, hb15⟩
  have hQ15 : Only (fun k => k = w.heap.size) w4 w15 := HQ14.out.trans (Only.of_below hb15)
  have HF : Hid (Below w.heap.size w w15) := hbw4.trans (only_below hQ15 (by omega) (fun k e => by omega))
  obtain ⟨⟨x0, x1⟩, y0, y1⟩ := HX.out
  rw [← hQ15.cell (p := ⟨w1.heap.size, 0, none⟩) (by show w1.heap.size < _; omega) (by show ¬ w1.heap.size = _; omega)] at x0
  rw [← hQ15.cell (p := ⟨w1.heap.size, 1, none⟩) (by show w1.heap.size < _; omega) (by show ¬ w1.heap.size = _; omega)] at x1
  rw [← hQ15.cell (p := ⟨w3.heap.size, 0, none⟩) (by show w3.heap.size < _; omega) (by show ¬ w3.heap.size = _; omega)] at y0
  rw [← hQ15.cell (p := ⟨w3.heap.size, 1, none⟩) (by show w3.heap.size < _; omega) (by show ¬ w3.heap.size = _; omega)] at y1
  clear hQ15 hb15 hK14
  go_wp2_with fail
  refine (num_walk z _).mono ?_
  rintro e w' ⟨rfl, rfl⟩
  go_wp2
  go_ret
  exact ⟨rfl, HF.out⟩
end Go.Proofs.YtfngjfnakokgmaaGreatDoor.Bk
