/- Replies: the document's headed: what a head tells. -/
import Derived.Test.YtmodongnganbfaaGreatDoorRdNToRdP
import Derived.Deep.Cut
namespace Go.Proofs.YtmodongnganbfaaGreatDoor.Rep
open Go.RowKit Go.Proofs.YtmodongnganbfaaGreatDoor Go.Proofs.YtmodongnganbfaaGreatDoor.Sha
/-- Wrong by the fields alone; and by the status and the limit too: with the document's own numbers. -/
def wr1 (n k g h : Nat) (sz : Int) (lc ok : Bool) : Bool := decide (1 < n) || decide (1 < k) || decide (1 < g) || decide (1 < h) || (n == 1 && k == 1) || (n == 1 && decide (sz < 0)) || (k == 1 && !lc) || (h == 1 && !ok)
def wr2 (w1 : Bool) (limit st n h : Nat) (sz t : Int) (bd : Bool) : Bool := w1 || (st == 206 && h == 0) || (bd && (n == 1 && decide ((limit : Int) < sz))) || (bd && (h == 1 && decide ((limit : Int) < t)))
theorem wrong_eq (limit st n k g h : Nat) (L C R : Bytes) (a b t : Int) (ok : Bool) (hS : SpanR R a b t ok) :
    wrongB limit st n k g h L C R = wr2 (wr1 n k g h (fewI L) (decide (smaller C = Rep.chunked)) ok) limit st n h (fewI L) t (hasBody st) := by
  have e1 : (few L).isNone = decide (fewI L < 0) := by
    unfold fewI
    cases few L with
    | none => rfl
    | some v => simp
  have e2 : decide (limit < (few L).getD 0) = decide ((limit : Int) < fewI L) := by
    unfold fewI
    cases few L with
    | none => simp
    | some v => simp
  have e3 : decide (smaller C ≠ Rep.chunked) = !decide (smaller C = Rep.chunked) := by simp
  have e4 : (span R).isNone = !ok := by rw [hS.1]; cases span R <;> rfl
  unfold wrongB wr2 wr1
  rw [e1, e2, e3, e4]
  cases hok : ok with
  | false =>
    by_cases h1 : h = 1
    · subst h1; simp
    · have h1' : (h == 1) = false := by simpa using h1
      rw [h1']
      rfl
  | true =>
    have hs : (span R).isSome = true := by rw [← hS.1]; exact hok
    obtain ⟨s, es⟩ := Option.isSome_iff_exists.1 hs
    rw [es, (hS.2 s es).2.2]
    simp
theorem is1 {n : Nat} (h : n = 1) : ((n : Int) == 1) = true := by rw [h]; rfl
theorem is0 {n : Nat} (h : n = 0) : ((n : Int) == 1) = false := by rw [h]; rfl
theorem gt1 {n : Nat} (h : 1 < n) : (1 : Int) < (n : Int) := by omega
theorem ngt1 {n : Nat} (h : ¬ 1 < n) : ¬ (1 : Int) < (n : Int) := by omega
theorem is0' {n : Nat} (h : n ≠ 1) : ((n : Int) == 1) = false := by rw [beq_eq_false_iff_ne]; omega
theorem isz {n : Nat} (h : n = 0) : ((n : Int) == 0) = true := by rw [h]; rfl
theorem isz' {n : Nat} (h : n ≠ 0) : ((n : Int) == 0) = false := by rw [beq_eq_false_iff_ne]; omega
theorem is206 {n : Nat} (h : n = 206) : ((n : Int) == 206) = true := by rw [h]; rfl
theorem is206' {n : Nat} (h : n ≠ 206) : ((n : Int) == 206) = false := by rw [beq_eq_false_iff_ne]; omega
theorem izz {x : Int} (h : x = 0) : (x == 0) = true := by rw [h]; rfl
theorem izz' {x : Int} (h : x ≠ 0) : (x == 0) = false := by rw [beq_eq_false_iff_ne]; exact h
theorem wr1_h {n k g h : Nat} {sz : Int} {lc ok : Bool} (e : wr1 n k g h sz lc ok = false) : h ≤ 1 ∧ (h = 1 → ok = true) ∧ (n = 1 → 0 ≤ sz) := by
  unfold wr1 at e
  simp at e
  refine ⟨e.1.1.1.1.2, e.2, ?_⟩
  intro hn
  have := e.1.1.2 hn
  omega
theorem few_of {L : Bytes} {sz : Int} (e : fewI L = sz) (h : 0 ≤ sz) : few L = some sz.toNat := by
  unfold fewI at e
  split at e
  · rename_i v hv; rw [hv, ← e]; simp
  · omega
theorem headP_wrong {limit : Nat} {m : Mc} {n k g h : Nat} {L C G R : Bytes} (hw : wrongB limit m.status n k g h L C R = true) : headP limit m n k g h L C G R = none := by unfold headP; rw [if_pos hw]
theorem headP_no {limit : Nat} {m : Mc} {n k g h : Nat} {L C G R : Bytes} (hw : wrongB limit m.status n k g h L C R = false) (hb : hasBody m.status = false) : headP limit m n k g h L C G R = some { headM m h G R with at' := 14 } := by
  unfold headP; rw [if_neg (by rw [hw]; decide), if_pos (by rw [hb]; rfl)]
theorem headP_chunk {limit : Nat} {m : Mc} {n k g h : Nat} {L C G R : Bytes} (hw : wrongB limit m.status n k g h L C R = false) (hb : hasBody m.status = true) (hk : k = 1) : headP limit m n k g h L C G R = some { headM m h G R with at' := 8, used := 0, start := 0, size := 0 } := by
  unfold headP; rw [if_neg (by rw [hw]; decide), if_neg (by rw [hb]; decide), if_pos hk]
theorem headP_zero {limit : Nat} {m : Mc} {n k g h : Nat} {L C G R : Bytes} (hw : wrongB limit m.status n k g h L C R = false) (hb : hasBody m.status = true) (hk : k ≠ 1) (hn : n = 1) (hf : few L = some 0) : headP limit m n k g h L C G R = done (headM m h G R) := by
  unfold headP; rw [if_neg (by rw [hw]; decide), if_neg (by rw [hb]; decide), if_neg hk, if_pos hn, if_pos hf]
theorem headP_count {limit : Nat} {m : Mc} {n k g h v : Nat} {L C G R : Bytes} (hw : wrongB limit m.status n k g h L C R = false) (hb : hasBody m.status = true) (hk : k ≠ 1) (hn : n = 1) (hf : few L = some v) (hv : v ≠ 0) : headP limit m n k g h L C G R = some { headM m h G R with at' := 12, size := v } := by
  unfold headP; rw [if_neg (by rw [hw]; decide), if_neg (by rw [hb]; decide), if_neg hk, if_pos hn, if_neg (by rw [hf]; intro e; exact hv (Option.some.inj e)), hf]; rfl
theorem headP_rest {limit : Nat} {m : Mc} {n k g h : Nat} {L C G R : Bytes} (hw : wrongB limit m.status n k g h L C R = false) (hb : hasBody m.status = true) (hk : k ≠ 1) (hn : n ≠ 1) : headP limit m n k g h L C G R = some { headM m h G R with at' := 13 } := by
  unfold headP; rw [if_neg (by rw [hw]; decide), if_neg (by rw [hb]; decide), if_neg hk, if_neg hn]
/-- What of a part is told, behind a head. -/
theorem part_head {m m' : Mc} {h : Nat} {G R : Bytes} {a b t : Int} {ok : Bool} (hS : SpanR R a b t ok) (e1 : m'.headed = true) (e2 : m'.status = m.status) (e3 : m'.span = (headM m h G R).span) :
    (m.status = 206 → h = 1 → ok = true → PartOf m' (.int .i64 b) (.int .i64 a) (.int .i64 t)) ∧ (m.status ≠ 206 → PartOf m' (.int .i64 b) (.int .i64 0) (.int .i64 0)) := by
  refine ⟨fun h6 h1 hok => ⟨⟨b, rfl⟩, fun _ => ?_, fun q => absurd ⟨e1, e2.trans h6⟩ q⟩, fun h6 => ⟨⟨b, rfl⟩, fun q => absurd (e2.symm.trans q.2) h6, fun _ => ⟨rfl, rfl⟩⟩⟩
  have hs : (span R).isSome = true := by rw [← hS.1]; exact hok
  obtain ⟨s, es⟩ := Option.isSome_iff_exists.1 hs
  obtain ⟨ha, hb, ht⟩ := hS.2 s es
  have hl := span_lt es
  refine ⟨s, ?_, by rw [hb], by rw [ha], by rw [ht], hl.1, by omega⟩
  rw [e3]
  unfold headM
  simp only []
  rw [if_pos h1, es]
theorem span_list (l : Bytes) (w : World) (hs : l.length ≤ 1000) : Calls Tryz.prog 53 #[.string ⟨l.toArray⟩] w fun e w' => SpanE l e ∧ Below w.heap.size w w' := by
  have h := span_walk ⟨l.toArray⟩ w (by show l.toArray.size ≤ _; simpa using hs)
  simpa using h
theorem named_le (nm : Bytes) (fs : List (Bytes × Bytes)) : (named nm fs).length ≤ fs.length := by unfold named; rw [List.length_map]; exact List.length_filter_le _ _
theorem lastV_le {nm : Bytes} {fs : List (Bytes × Bytes)} (h : ∀ f ∈ fs, f.2.length ≤ 400) : (lastV (named nm fs)).length ≤ 400 := by
  unfold lastV
  cases hl : (named nm fs).getLast? with
  | none => simp
  | some v =>
    have hm : v ∈ named nm fs := List.mem_of_getLast? hl
    unfold named at hm
    obtain ⟨f, hf, rfl⟩ := List.mem_map.1 hm
    exact h f (List.mem_filter.1 hf).1
set_option maxHeartbeats 8000000 in
set_option maxRecDepth 100000 in
theorem headed_walk (mb limit : Nat) (m : Mc) (w : World) (h : DM mb limit m w) (hhd : m.headed = false) (hfl : m.fields.length ≤ 400) (hvl : ∀ f ∈ m.fields, f.2.length ≤ 400) (hbd : m.body.length ≤ 1000000) :
    Calls Tryz.prog 35 #[.pointer (some ⟨mb, 0, none⟩)] w fun e w' => e = .returned (.tuple #[]) ∧ Stepped mb limit (headed limit m) w' ∧ Only (· = mb) w w' := by
  rw [headed_P]
  obtain ⟨nv, vv, last, fr, tot, hR, hN, hV, n1, n2, n3, hP⟩ := h.ex
  have c9 : w.cell? ⟨mb, 9, none⟩ = some (.bool m.headed) := hR.cell 9 _ rfl
  have f9 := hR.fro 9
  have hlt := hR.lt (by simp [encM])
  obtain ⟨w1, HW1⟩ : ∃ w1, Hid (w.setCell ⟨mb, 9, none⟩ (.bool true) = w1) := ⟨_, rfl⟩
  have hR1 : Row w1 mb (encM limit nv vv last fr tot { m with headed := true }) := by rw [← HW1.out]; exact (hR.set 9 (.bool true) (by simp [encM])).cast rfl
  have hK1 : Only (· = mb) w w1 := by rw [← HW1.out]; exact Only.set (S := (· = mb)) w 9 _ rfl
  have hN1 := own_only' hN hK1 (fun g hg e => n1.1 (by rw [hg, e]))
  have hV1 := own_only' hV hK1 (fun g hg e => n2.1 (by rw [hg, e]))
  have hfr : fr = .int .i64 0 ∧ tot = .int .i64 0 := hP.2.2 (fun e => by rw [hhd] at e; cases e.1)
  obtain ⟨xl, hxl⟩ := hP.1
  obtain ⟨rfl, rfl⟩ := hfr
  subst hxl
  have hfl1 : m.fields.length ≤ 1000 := by omega
  have HL : Hid (Calls Tryz.prog 51 #[.pointer (some ⟨mb, 0, none⟩), .string ⟨#[99, 111, 110, 116, 101, 110, 116, 45, 108, 101, 110, 103, 116, 104]⟩] w1 fun e w' => e = .returned (.tuple #[.int .i64 ((named nLength m.fields).length : Int), .string ⟨(lastV (named nLength m.fields)).toArray⟩]) ∧ w' = w1) := named_walk mb limit { m with headed := true } w1 nv vv _ _ _ hR1 hN1 hV1 ⟨#[99, 111, 110, 116, 101, 110, 116, 45, 108, 101, 110, 103, 116, 104]⟩ hfl1
  have HC : Hid (Calls Tryz.prog 51 #[.pointer (some ⟨mb, 0, none⟩), .string ⟨#[116, 114, 97, 110, 115, 102, 101, 114, 45, 101, 110, 99, 111, 100, 105, 110, 103]⟩] w1 fun e w' => e = .returned (.tuple #[.int .i64 ((named nCoding m.fields).length : Int), .string ⟨(lastV (named nCoding m.fields)).toArray⟩]) ∧ w' = w1) := named_walk mb limit { m with headed := true } w1 nv vv _ _ _ hR1 hN1 hV1 ⟨#[116, 114, 97, 110, 115, 102, 101, 114, 45, 101, 110, 99, 111, 100, 105, 110, 103]⟩ hfl1
  have HG : Hid (Calls Tryz.prog 51 #[.pointer (some ⟨mb, 0, none⟩), .string ⟨#[101, 116, 97, 103]⟩] w1 fun e w' => e = .returned (.tuple #[.int .i64 ((named nTag m.fields).length : Int), .string ⟨(lastV (named nTag m.fields)).toArray⟩]) ∧ w' = w1) := named_walk mb limit { m with headed := true } w1 nv vv _ _ _ hR1 hN1 hV1 ⟨#[101, 116, 97, 103]⟩ hfl1
  have HR : Hid (Calls Tryz.prog 51 #[.pointer (some ⟨mb, 0, none⟩), .string ⟨#[99, 111, 110, 116, 101, 110, 116, 45, 114, 97, 110, 103, 101]⟩] w1 fun e w' => e = .returned (.tuple #[.int .i64 ((named nRange m.fields).length : Int), .string ⟨(lastV (named nRange m.fields)).toArray⟩]) ∧ w' = w1) := named_walk mb limit { m with headed := true } w1 nv vv _ _ _ hR1 hN1 hV1 ⟨#[99, 111, 110, 116, 101, 110, 116, 45, 114, 97, 110, 103, 101]⟩ hfl1
  have bL := lastV_le (nm := nLength) hvl
  have zL := named_le nLength m.fields
  have bC := lastV_le (nm := nCoding) hvl
  have zC := named_le nCoding m.fields
  have bG := lastV_le (nm := nTag) hvl
  have zG := named_le nTag m.fields
  have bR := lastV_le (nm := nRange) hvl
  have zR := named_le nRange m.fields
  generalize (named nLength m.fields).length = n at *
  generalize (named nCoding m.fields).length = k at *
  generalize (named nTag m.fields).length = g at *
  generalize (named nRange m.fields).length = h' at *
  generalize lastV (named nLength m.fields) = L at *
  generalize lastV (named nCoding m.fields) = C at *
  generalize lastV (named nTag m.fields) = G at *
  generalize lastV (named nRange m.fields) = R at *
  have HR1 : Hid (Row w1 mb (encM limit nv vv (.int .i64 xl) (.int .i64 0) (.int .i64 0) { m with headed := true })) := hR1
  have HN1 : Hid (Own w1 mb nv ((m.fields.map (·.1)).map strL)) := hN1
  have HV1 : Hid (Own w1 mb vv ((m.fields.map (·.2)).map strL)) := hV1
  have HB1 : Hid (Only (· = mb) w w1) := hK1
  have H3 : Hid (∀ g, nv.ownBlock = some g → vv.ownBlock ≠ some g) := n3
  have HLs : Hid (mb < w1.heap.size) := hR1.lt (by simp [encM])
  clear hR hN hV hP h n3 hR1 hN1 hV1 hK1 hvl hfl1
  go_enter Tryz.func35, Tryz.ntmps35
  go_wp2_with fail
  rw [HW1.out]
  refine HL.out.mono ?_
  rintro e w' ⟨rfl, rfl⟩
  go_wp2_with fail
  refine HC.out.mono ?_
  rintro e w'' ⟨rfl, rfl⟩
  go_wp2_with fail
  refine HG.out.mono ?_
  rintro e w3 ⟨rfl, rfl⟩
  go_wp2_with fail
  refine HR.out.mono ?_
  rintro e w4 ⟨rfl, rfl⟩
  go_wp2_with fail
  refine (few_list L w4 (by omega)).mono ?_
  rintro e w5 ⟨rfl, rfl⟩
  have HSp := span_list R w5 (by omega)
  go_wp2_with fail
  refine HSp.mono ?_
  rintro e w6 ⟨⟨a, b, t, ok, rfl, hS⟩, hB6⟩
  have HS : Hid (SpanR R a b t ok) := hS
  have HB6 : Hid (Below w5.heap.size w5 w6) := hB6
  clear hS hB6 HSp
  go_wp2_with fail
  refine (smaller_list C w6 (by omega)).mono ?_
  rintro e w7 ⟨rfl, hB7⟩
  have HB7 : Hid (Below w5.heap.size w5 w7) := HB6.out.trans (hB7.mono HB6.out.size)
  have HB : Hid (Only (· = mb) w w7) := HB1.out.trans (Only.of_below HB7.out)
  have HR7 : Hid (Row w7 mb (encM limit nv vv (.int .i64 xl) (.int .i64 0) (.int .i64 0) { m with headed := true })) := HR1.out.below (by simp [encM]) HB7.out
  have HN7 : Hid (Own w7 mb nv ((m.fields.map (·.1)).map strL)) := HN1.out.step HB7.out
  have HV7 : Hid (Own w7 mb vv ((m.fields.map (·.2)).map strL)) := HV1.out.step HB7.out
  clear hB7 HB6 HB7 HL HC HG HR HR1 HN1 HV1 HB1
  have c0 : w7.cell? ⟨mb, 0, none⟩ = some (.int .i64 (m.at' : Int)) := HR7.out.cell 0 _ rfl
  have c2 : w7.cell? ⟨mb, 2, none⟩ = some (.int .i64 (limit : Int)) := HR7.out.cell 2 _ rfl
  have c3 : w7.cell? ⟨mb, 3, none⟩ = some (.int .i64 (m.used : Int)) := HR7.out.cell 3 _ rfl
  have c4 : w7.cell? ⟨mb, 4, none⟩ = some (.int .i64 (m.start : Int)) := HR7.out.cell 4 _ rfl
  have c11 : w7.cell? ⟨mb, 11, none⟩ = some (.int .i64 (m.size : Int)) := HR7.out.cell 11 _ rfl
  have c13 : w7.cell? ⟨mb, 13, none⟩ = some (.int .i64 xl) := HR7.out.cell 13 _ rfl
  have c15 : w7.cell? ⟨mb, 15, none⟩ = some (.int .i64 (m.status : Int)) := HR7.out.cell 15 _ rfl
  have c16 : w7.cell? ⟨mb, 16, none⟩ = some (.string ⟨m.tag.toArray⟩) := HR7.out.cell 16 _ rfl
  have c18 : w7.cell? ⟨mb, 18, none⟩ = some (.int .i64 0) := HR7.out.cell 18 _ rfl
  have c19 : w7.cell? ⟨mb, 19, none⟩ = some (.int .i64 0) := HR7.out.cell 19 _ rfl
  have f0 := HR7.out.fro 0
  have f3 := HR7.out.fro 3
  have f4 := HR7.out.fro 4
  have f11 := HR7.out.fro 11
  have f13 := HR7.out.fro 13
  have f16 := HR7.out.fro 16
  have f18 := HR7.out.fro 18
  have f19 := HR7.out.fro 19
  clear c9 f9 hlt
  obtain ⟨low, elow⟩ : ∃ low : ByteArray, low = ⟨(smaller C).toArray⟩ := ⟨_, rfl⟩
  obtain ⟨lc, elc⟩ : ∃ lc : Bool, decide (smaller C = Rep.chunked) = lc := ⟨_, rfl⟩
  have blc : (low.toList == [99, 104, 117, 110, 107, 101, 100]) = lc := by
    rw [← elc, ByteArray.toList_eq, elow]
    by_cases q : smaller C = Rep.chunked
    · rw [decide_eq_true q, q]; rfl
    · rw [decide_eq_false q, beq_eq_false_iff_ne]; exact q
  obtain ⟨sz, esz⟩ : ∃ sz, fewI L = sz := ⟨_, rfl⟩
  obtain ⟨bd, ebd⟩ : ∃ bd, hasBody m.status = bd := ⟨_, rfl⟩
  obtain ⟨st, est⟩ : ∃ st, m.status = st := ⟨_, rfl⟩
  have HWB := wrong_eq limit m.status n k g h' L C R a b t ok HS.out
  rw [elc, esz, ebd, est] at HWB
  have HWB : Hid (wrongB limit st n k g h' L C R = wr2 (wr1 n k g h' sz lc ok) limit st n h' sz t bd) := HWB
  have Hesz : Hid (fewI L = sz) := esz
  have Hest : Hid (m.status = st) := est
  rw [est] at c15 ebd
  rw [esz, ← elow]
  have Hebd : Hid (hasBody st = bd) := ebd
  clear esz est elow elc ebd
  go_upto_region 8 with fail
  go_cut [16] from 52 (fun s16 wx => s16 = .bool bd ∧ wx = w7)
  case first =>
    by_cases q0 : st = 200
    · have b0 : ((st : Int) == 200) = true := by rw [beq_iff_eq]; omega
      have hv : Hid (true = bd) := by show _ = _; rw [← Hebd.out]; simp [hasBody, q0]
      clear q0
      go_wp2_with fail
      go_meet
      exact ⟨congrArg Value.bool hv.out, rfl⟩
    · have b0 : ((st : Int) == 200) = false := by rw [beq_eq_false_iff_ne]; omega
      by_cases q1 : st = 206
      · have b1 : ((st : Int) == 206) = true := by rw [beq_iff_eq]; omega
        have hv : Hid (true = bd) := by show _ = _; rw [← Hebd.out]; simp [hasBody, q1]
        clear q0 q1
        go_wp2_with fail
        go_meet
        exact ⟨congrArg Value.bool hv.out, rfl⟩
      · have b1 : ((st : Int) == 206) = false := by rw [beq_eq_false_iff_ne]; omega
        have hv : Hid (false = bd) := by show _ = _; rw [← Hebd.out]; simp [hasBody, q0, q1]
        clear q0 q1
        go_wp2_with fail
        go_meet
        exact ⟨congrArg Value.bool hv.out, rfl⟩
  case rest =>
  obtain ⟨rfl, rfl⟩ := hcut
  obtain ⟨w1b, ew1⟩ : ∃ w1b, wr1 n k g h' sz lc ok = w1b := ⟨_, rfl⟩
  have Hw1 : Hid (wr1 n k g h' sz lc ok = w1b) := ew1
  rw [ew1] at HWB
  clear ew1
  go_upto_region 9 with fail
  go_cut [17] from 66 (fun s17 wx => s17 = .bool w1b ∧ wx = wc)
  case first =>
    clear zL zC zG zR bL bC bG bR hfl hbd c0 c2 c3 c4 c11 c13 c15 c16 c18 c19 f0 f3 f4 f11 f13 f16 f18 f19 n1 n2 hhd HR7 HN7 HV7 HB H3 HLs HS
    by_cases qn : 1 < n
    · have g_n : (1 : Int) < (n : Int) := gt1 qn
      have hv : Hid (true = w1b) := by show _ = _; rw [← Hw1.out]; simp [wr1, qn]
      clear qn
      as_aux_lemma =>
        go_wp2_with fail
        go_meet
        exact ⟨congrArg Value.bool hv.out, rfl⟩
    have g_n : ¬ (1 : Int) < (n : Int) := ngt1 qn
    by_cases qk : 1 < k
    · have g_k : (1 : Int) < (k : Int) := gt1 qk
      have hv : Hid (true = w1b) := by show _ = _; rw [← Hw1.out]; simp [wr1, qk]
      clear qn qk
      as_aux_lemma =>
        go_wp2_with fail
        go_meet
        exact ⟨congrArg Value.bool hv.out, rfl⟩
    have g_k : ¬ (1 : Int) < (k : Int) := ngt1 qk
    by_cases qg : 1 < g
    · have g_g : (1 : Int) < (g : Int) := gt1 qg
      have hv : Hid (true = w1b) := by show _ = _; rw [← Hw1.out]; simp [wr1, qg]
      clear qn qk qg
      as_aux_lemma =>
        go_wp2_with fail
        go_meet
        exact ⟨congrArg Value.bool hv.out, rfl⟩
    have g_g : ¬ (1 : Int) < (g : Int) := ngt1 qg
    by_cases qh : 1 < h'
    · have g_hp : (1 : Int) < (h' : Int) := gt1 qh
      have hv : Hid (true = w1b) := by show _ = _; rw [← Hw1.out]; simp [wr1, qh]
      clear qn qk qg qh
      as_aux_lemma =>
        go_wp2_with fail
        go_meet
        exact ⟨congrArg Value.bool hv.out, rfl⟩
    have g_hp : ¬ (1 : Int) < (h' : Int) := ngt1 qh
    have qn2 : n = 0 ∨ n = 1 := by omega
    have qk2 : k = 0 ∨ k = 1 := by omega
    have qh2 : h' = 0 ∨ h' = 1 := by omega
    rcases qn2 with en | en
    · have e_n : ((n : Int) == 1) = false := is0 en
      have qn2 := en
      rcases qk2 with ek | ek
      · have e_k : ((k : Int) == 1) = false := is0 ek
        have qk2 := ek
        rcases qh2 with eh | eh
        · have e_hp : ((h' : Int) == 1) = false := is0 eh
          have hv : Hid (false = w1b) := by show _ = _; rw [← Hw1.out]; simp [wr1, en, ek, eh, qg]
          clear qn qk qg qh qn2 qk2 eh en ek
          as_aux_lemma =>
            go_wp2_with fail
            go_meet
            exact ⟨congrArg Value.bool hv.out, rfl⟩
        · have e_hp : ((h' : Int) == 1) = true := is1 eh
          cases ok with
          | true =>
            have hv : Hid (false = w1b) := by show _ = _; rw [← Hw1.out]; simp [wr1, en, ek, eh, qg]
            clear qn qk qg qh qn2 qk2 eh en ek
            as_aux_lemma =>
              go_wp2_with fail
              go_meet
              exact ⟨congrArg Value.bool hv.out, rfl⟩
          | false =>
            have hv : Hid (true = w1b) := by show _ = _; rw [← Hw1.out]; simp [wr1, en, ek, eh]
            clear qn qk qg qh qn2 qk2 eh en ek
            as_aux_lemma =>
              go_wp2_with fail
              go_meet
              exact ⟨congrArg Value.bool hv.out, rfl⟩
      · have e_k : ((k : Int) == 1) = true := is1 ek
        have qk2 := ek
        cases lc with
        | true =>
          rcases qh2 with eh | eh
          · have e_hp : ((h' : Int) == 1) = false := is0 eh
            have hv : Hid (false = w1b) := by show _ = _; rw [← Hw1.out]; simp [wr1, en, ek, eh, qg]
            clear qn qk qg qh qn2 qk2 eh en ek
            as_aux_lemma =>
              go_wp2_with fail
              go_meet
              exact ⟨congrArg Value.bool hv.out, rfl⟩
          · have e_hp : ((h' : Int) == 1) = true := is1 eh
            cases ok with
            | true =>
              have hv : Hid (false = w1b) := by show _ = _; rw [← Hw1.out]; simp [wr1, en, ek, eh, qg]
              clear qn qk qg qh qn2 qk2 eh en ek
              as_aux_lemma =>
                go_wp2_with fail
                go_meet
                exact ⟨congrArg Value.bool hv.out, rfl⟩
            | false =>
              have hv : Hid (true = w1b) := by show _ = _; rw [← Hw1.out]; simp [wr1, en, ek, eh]
              clear qn qk qg qh qn2 qk2 eh en ek
              as_aux_lemma =>
                go_wp2_with fail
                go_meet
                exact ⟨congrArg Value.bool hv.out, rfl⟩
        | false =>
          have hv : Hid (true = w1b) := by show _ = _; rw [← Hw1.out]; simp [wr1, en, ek]
          clear qn qk qg qh qn2 qk2 qh2 en ek
          as_aux_lemma =>
            go_wp2_with fail
            go_meet
            exact ⟨congrArg Value.bool hv.out, rfl⟩
    · have e_n : ((n : Int) == 1) = true := is1 en
      have qn2 := en
      rcases qk2 with ek | ek
      · have e_k : ((k : Int) == 1) = false := is0 ek
        have qk2 := ek
        by_cases qs : sz < 0
        · have hv : Hid (true = w1b) := by show _ = _; rw [← Hw1.out]; simp [wr1, en, ek, qs]
          clear qn qk qg qh qn2 qk2 qh2 en ek
          as_aux_lemma =>
            go_wp2_with fail
            go_meet
            exact ⟨congrArg Value.bool hv.out, rfl⟩
        · rcases qh2 with eh | eh
          · have e_hp : ((h' : Int) == 1) = false := is0 eh
            have hv : Hid (false = w1b) := by show _ = _; rw [← Hw1.out]; simp [wr1, en, ek, eh, qg, qs]
            clear qn qk qg qh qn2 qk2 eh en ek
            as_aux_lemma =>
              go_wp2_with fail
              go_meet
              exact ⟨congrArg Value.bool hv.out, rfl⟩
          · have e_hp : ((h' : Int) == 1) = true := is1 eh
            cases ok with
            | true =>
              have hv : Hid (false = w1b) := by show _ = _; rw [← Hw1.out]; simp [wr1, en, ek, eh, qg, qs]
              clear qn qk qg qh qn2 qk2 eh en ek
              as_aux_lemma =>
                go_wp2_with fail
                go_meet
                exact ⟨congrArg Value.bool hv.out, rfl⟩
            | false =>
              have hv : Hid (true = w1b) := by show _ = _; rw [← Hw1.out]; simp [wr1, en, ek, eh]
              clear qn qk qg qh qn2 qk2 eh en ek
              as_aux_lemma =>
                go_wp2_with fail
                go_meet
                exact ⟨congrArg Value.bool hv.out, rfl⟩
      · have e_k : ((k : Int) == 1) = true := is1 ek
        have qk2 := ek
        have hv : Hid (true = w1b) := by show _ = _; rw [← Hw1.out]; simp [wr1, en, ek]
        clear qn qk qg qh qn2 qk2 qh2 en ek
        as_aux_lemma =>
          go_wp2_with fail
          go_meet
          exact ⟨congrArg Value.bool hv.out, rfl⟩
  case rest =>
  obtain ⟨rfl, rfl⟩ := hcut
  obtain ⟨w2b, ew2⟩ : ∃ w2b, wr2 w1b limit st n h' sz t bd = w2b := ⟨_, rfl⟩
  have Hw2 : Hid (wr2 w1b limit st n h' sz t bd = w2b) := ew2
  rw [ew2] at HWB
  clear ew2
  obtain ⟨w8, ew8⟩ : ∃ w8, wc = w8 := ⟨_, rfl⟩
  subst ew8
  go_upto_region 10 with fail
  go_cut [17] from 112 (fun s17 wx => s17 = .bool w2b ∧ wx = wc)
  case first =>
    clear zL zC zG zR bL bC bG bR hfl hbd c0 c3 c4 c11 c13 c16 c18 c19 f0 f3 f4 f11 f13 f16 f18 f19 n1 n2 hhd HR7 HN7 HV7 HB H3 HLs HS
    cases w1b with
    | true =>
      have hv : Hid (true = w2b) := by show _ = _; rw [← Hw2.out]; simp [wr2]
      clear Hw2
      as_aux_lemma =>
        go_wp2_with fail
        go_meet
        exact ⟨congrArg Value.bool hv.out, rfl⟩
    | false =>
      have hh := wr1_h Hw1.out
      by_cases q6 : st = 206
      · have b6 := is206 q6
        have ebt : bd = true := by rw [← Hebd.out, q6]; rfl
        subst ebt
        by_cases eh0 : h' = 0
        · have e_h0 := isz eh0
          have hv : Hid (true = w2b) := by show _ = _; rw [← Hw2.out]; simp [wr2, q6, eh0]
          clear Hw2 hh q6 eh0
          as_aux_lemma =>
            go_wp2_with fail
            go_meet
            exact ⟨congrArg Value.bool hv.out, rfl⟩
        · have e_h0 := isz' eh0
          have eh : h' = 1 := by omega
          have e_h := is1 eh
          clear hh
          by_cases en : n = 1
          · have e_n := is1 en
            by_cases qs : (limit : Int) < sz
            · have hv : Hid (true = w2b) := by show _ = _; rw [← Hw2.out]; simp [wr2, en, qs]
              clear Hw2 q6 eh0 eh en
              as_aux_lemma =>
                go_wp2_with fail
                go_meet
                exact ⟨congrArg Value.bool hv.out, rfl⟩
            · by_cases qt : (limit : Int) < t
              · have hv : Hid (true = w2b) := by show _ = _; rw [← Hw2.out]; simp [wr2, eh, qt]
                clear Hw2 q6 eh0 eh en
                as_aux_lemma =>
                  go_wp2_with fail
                  go_meet
                  exact ⟨congrArg Value.bool hv.out, rfl⟩
              · have hv : Hid (false = w2b) := by show _ = _; rw [← Hw2.out]; simp [wr2, eh, en, qs, qt]
                clear Hw2 q6 eh0 eh en
                as_aux_lemma =>
                  go_wp2_with fail
                  go_meet
                  exact ⟨congrArg Value.bool hv.out, rfl⟩
          · have e_n := is0' en
            by_cases qt : (limit : Int) < t
            · have hv : Hid (true = w2b) := by show _ = _; rw [← Hw2.out]; simp [wr2, eh, qt]
              clear Hw2 q6 eh0 eh en
              as_aux_lemma =>
                go_wp2_with fail
                go_meet
                exact ⟨congrArg Value.bool hv.out, rfl⟩
            · have hv : Hid (false = w2b) := by show _ = _; rw [← Hw2.out]; simp [wr2, eh, en, qt]
              clear Hw2 q6 eh0 eh en
              as_aux_lemma =>
                go_wp2_with fail
                go_meet
                exact ⟨congrArg Value.bool hv.out, rfl⟩
      · have b6 := is206' q6
        clear hh
        cases bd with
        | false =>
          have hv : Hid (false = w2b) := by show _ = _; rw [← Hw2.out]; simp [wr2, q6]
          clear Hw2 q6
          as_aux_lemma =>
            go_wp2_with fail
            go_meet
            exact ⟨congrArg Value.bool hv.out, rfl⟩
        | true =>
          by_cases en : n = 1
          · have e_n := is1 en
            by_cases qs : (limit : Int) < sz
            · have hv : Hid (true = w2b) := by show _ = _; rw [← Hw2.out]; simp [wr2, en, qs]
              clear Hw2 q6 en
              as_aux_lemma =>
                go_wp2_with fail
                go_meet
                exact ⟨congrArg Value.bool hv.out, rfl⟩
            · by_cases eh : h' = 1
              · have e_h := is1 eh
                by_cases qt : (limit : Int) < t
                · have hv : Hid (true = w2b) := by show _ = _; rw [← Hw2.out]; simp [wr2, eh, qt]
                  clear Hw2 q6 en eh
                  as_aux_lemma =>
                    go_wp2_with fail
                    go_meet
                    exact ⟨congrArg Value.bool hv.out, rfl⟩
                · have hv : Hid (false = w2b) := by show _ = _; rw [← Hw2.out]; simp [wr2, en, qs, eh, qt]
                  clear Hw2 q6 en eh
                  as_aux_lemma =>
                    go_wp2_with fail
                    go_meet
                    exact ⟨congrArg Value.bool hv.out, rfl⟩
              · have e_h := is0' eh
                have hv : Hid (false = w2b) := by show _ = _; rw [← Hw2.out]; simp [wr2, q6, en, qs, eh]
                clear Hw2 q6 en eh
                as_aux_lemma =>
                  go_wp2_with fail
                  go_meet
                  exact ⟨congrArg Value.bool hv.out, rfl⟩
          · have e_n := is0' en
            by_cases eh : h' = 1
            · have e_h := is1 eh
              by_cases qt : (limit : Int) < t
              · have hv : Hid (true = w2b) := by show _ = _; rw [← Hw2.out]; simp [wr2, eh, qt]
                clear Hw2 q6 en eh
                as_aux_lemma =>
                  go_wp2_with fail
                  go_meet
                  exact ⟨congrArg Value.bool hv.out, rfl⟩
              · have hv : Hid (false = w2b) := by show _ = _; rw [← Hw2.out]; simp [wr2, en, eh, qt]
                clear Hw2 q6 en eh
                as_aux_lemma =>
                  go_wp2_with fail
                  go_meet
                  exact ⟨congrArg Value.bool hv.out, rfl⟩
            · have e_h := is0' eh
              have hv : Hid (false = w2b) := by show _ = _; rw [← Hw2.out]; simp [wr2, q6, en, eh]
              clear Hw2 q6 en eh
              as_aux_lemma =>
                go_wp2_with fail
                go_meet
                exact ⟨congrArg Value.bool hv.out, rfl⟩
  case rest =>
  obtain ⟨rfl, rfl⟩ := hcut
  have HWB' : Hid (wrongB limit m.status n k g h' L C R = w2b) := by show _ = _; rw [Hest.out]; exact HWB.out
  have Hb' : Hid (hasBody m.status = bd) := by show _ = _; rw [Hest.out]; exact Hebd.out
  have HPt := fun (m' : Mc) e1 e2 e3 => part_head (m := m) (m' := m') (h := h') (G := G) HS.out e1 e2 e3
  have HPt : Hid (∀ m' : Mc, m'.headed = true → m'.status = m.status → m'.span = (headM m h' G R).span → (m.status = 206 → h' = 1 → ok = true → PartOf m' (.int .i64 b) (.int .i64 a) (.int .i64 t)) ∧ (m.status ≠ 206 → PartOf m' (.int .i64 b) (.int .i64 0) (.int .i64 0))) := HPt
  cases w2b with
  | true =>
    by_cases q6 : st = 206
    · have b6 := is206 q6
      obtain ⟨wb, HWb⟩ : ∃ wb, Hid (((((wc.setCell ⟨mb, 16, none⟩ (.string ⟨G.toArray⟩)).setCell ⟨mb, 13, none⟩ (.int .i64 b)).setCell ⟨mb, 18, none⟩ (.int .i64 a)).setCell ⟨mb, 19, none⟩ (.int .i64 t)) = wb) := ⟨_, rfl⟩
      have Rb : Hid (Row wb mb (encM limit nv vv (.int .i64 b) (.int .i64 a) (.int .i64 t) (headM m h' G R))) := by show Row _ _ _; rw [← HWb.out]; exact ((((HR7.out.set 16 (.string ⟨G.toArray⟩) (by simp [encM])).set 13 (.int .i64 b) (by simp [encM])).set 18 (.int .i64 a) (by simp [encM])).set 19 (.int .i64 t) (by simp [encM])).cast rfl
      have Kb : Hid (Only (· = mb) w wb) := by show Only _ _ _; rw [← HWb.out]; exact HB.out.trans (((((Only.refl _ wc).trans (Only.set (S := (· = mb)) _ 16 _ rfl)).trans (Only.set (S := (· = mb)) _ 13 _ rfl)).trans (Only.set (S := (· = mb)) _ 18 _ rfl)).trans (Only.set (S := (· = mb)) _ 19 _ rfl))
      have Ob : Hid (Only (· = mb) wc wb) := by show Only _ _ _; rw [← HWb.out]; exact ((((Only.refl _ wc).trans (Only.set (S := (· = mb)) _ 16 _ rfl)).trans (Only.set (S := (· = mb)) _ 13 _ rfl)).trans (Only.set (S := (· = mb)) _ 18 _ rfl)).trans (Only.set (S := (· = mb)) _ 19 _ rfl)
      have d0 : wb.cell? ⟨mb, 0, none⟩ = some (.int .i64 (m.at' : Int)) := Rb.out.cell 0 _ rfl
      have k0 := Rb.out.fro 0
      have d3 : wb.cell? ⟨mb, 3, none⟩ = some (.int .i64 (m.used : Int)) := Rb.out.cell 3 _ rfl
      have k3 := Rb.out.fro 3
      have d4 : wb.cell? ⟨mb, 4, none⟩ = some (.int .i64 (m.start : Int)) := Rb.out.cell 4 _ rfl
      have k4 := Rb.out.fro 4
      have d11 : wb.cell? ⟨mb, 11, none⟩ = some (.int .i64 (m.size : Int)) := Rb.out.cell 11 _ rfl
      have k11 := Rb.out.fro 11
      have hv : Hid (headP limit m n k g h' L C G R = none) := headP_wrong HWB'.out
      have HK : Hid (Only (· = mb) w (wb.setCell ⟨mb, 0, none⟩ (.int .i64 15))) := ((Kb.out).trans (Only.set (S := (· = mb)) _ 0 _ rfl))
      have HF : Hid (Stepped mb limit none (wb.setCell ⟨mb, 0, none⟩ (.int .i64 15))) := by have q := (Rb.out.set 0 (.int .i64 15) (by simp [encM])); exact ⟨{ headM m h' G R with at' := 15 }, nv, vv, _, _, _, q.cast rfl, rfl, ⟨_, rfl⟩, ⟨_, rfl⟩⟩
      clear HR7 HN7 HV7 HB H3 HLs HS HPt HWB HWB' Hb' Hebd Hest Hesz Hw1 Hw2 q6 Rb Kb Ob
      as_aux_lemma =>
        go_upto_region 17 with fail
        rw [HWb.out]
        clear c0 c2 c3 c4 c11 c13 c16 c18 c19 f0 f3 f4 f11 f13 f16 f18 f19
        go_wp2
        first | go_end0 | refine bodyPost_ret (results_none rfl _ _ _) rfl ?_
        exact ⟨rfl, by rw [hv.out]; exact HF.out, HK.out⟩
    · have b6 := is206' q6
      obtain ⟨wb, HWb⟩ : ∃ wb, Hid (((wc.setCell ⟨mb, 16, none⟩ (.string ⟨G.toArray⟩)).setCell ⟨mb, 13, none⟩ (.int .i64 b)) = wb) := ⟨_, rfl⟩
      have Rb : Hid (Row wb mb (encM limit nv vv (.int .i64 b) (.int .i64 0) (.int .i64 0) (headM m h' G R))) := by show Row _ _ _; rw [← HWb.out]; exact ((HR7.out.set 16 (.string ⟨G.toArray⟩) (by simp [encM])).set 13 (.int .i64 b) (by simp [encM])).cast rfl
      have Kb : Hid (Only (· = mb) w wb) := by show Only _ _ _; rw [← HWb.out]; exact HB.out.trans (((Only.refl _ wc).trans (Only.set (S := (· = mb)) _ 16 _ rfl)).trans (Only.set (S := (· = mb)) _ 13 _ rfl))
      have Ob : Hid (Only (· = mb) wc wb) := by show Only _ _ _; rw [← HWb.out]; exact ((Only.refl _ wc).trans (Only.set (S := (· = mb)) _ 16 _ rfl)).trans (Only.set (S := (· = mb)) _ 13 _ rfl)
      have d0 : wb.cell? ⟨mb, 0, none⟩ = some (.int .i64 (m.at' : Int)) := Rb.out.cell 0 _ rfl
      have k0 := Rb.out.fro 0
      have d3 : wb.cell? ⟨mb, 3, none⟩ = some (.int .i64 (m.used : Int)) := Rb.out.cell 3 _ rfl
      have k3 := Rb.out.fro 3
      have d4 : wb.cell? ⟨mb, 4, none⟩ = some (.int .i64 (m.start : Int)) := Rb.out.cell 4 _ rfl
      have k4 := Rb.out.fro 4
      have d11 : wb.cell? ⟨mb, 11, none⟩ = some (.int .i64 (m.size : Int)) := Rb.out.cell 11 _ rfl
      have k11 := Rb.out.fro 11
      have hv : Hid (headP limit m n k g h' L C G R = none) := headP_wrong HWB'.out
      have HK : Hid (Only (· = mb) w (wb.setCell ⟨mb, 0, none⟩ (.int .i64 15))) := ((Kb.out).trans (Only.set (S := (· = mb)) _ 0 _ rfl))
      have HF : Hid (Stepped mb limit none (wb.setCell ⟨mb, 0, none⟩ (.int .i64 15))) := by have q := (Rb.out.set 0 (.int .i64 15) (by simp [encM])); exact ⟨{ headM m h' G R with at' := 15 }, nv, vv, _, _, _, q.cast rfl, rfl, ⟨_, rfl⟩, ⟨_, rfl⟩⟩
      clear HR7 HN7 HV7 HB H3 HLs HS HPt HWB HWB' Hb' Hebd Hest Hesz Hw1 Hw2 q6 Rb Kb Ob
      as_aux_lemma =>
        go_upto_region 17 with fail
        rw [HWb.out]
        clear c0 c2 c3 c4 c11 c13 c16 c18 c19 f0 f3 f4 f11 f13 f16 f18 f19
        go_wp2
        first | go_end0 | refine bodyPost_ret (results_none rfl _ _ _) rfl ?_
        exact ⟨rfl, by rw [hv.out]; exact HF.out, HK.out⟩
  | false =>
    have w1f : wr1 n k g h' sz lc ok = false := by
      have q := Hw2.out
      unfold wr2 at q
      simp only [Bool.or_eq_false_iff] at q
      rw [Hw1.out]; exact q.1.1.1
    have hh := wr1_h w1f
    have h60 : st = 206 → h' ≠ 0 := by
      have q := Hw2.out
      unfold wr2 at q
      simp only [Bool.or_eq_false_iff] at q
      intro e6 e0
      have q2 := q.1.1.2
      rw [e6, e0] at q2
      cases q2
    clear w1f
    have Hsz : Hid (n = 1 → few L = some sz.toNat ∧ 0 ≤ sz) := fun e => ⟨few_of Hesz.out (hh.2.2 e), hh.2.2 e⟩
    by_cases q6 : st = 206
    · have b6 := is206 q6
      have ebt : bd = true := by rw [← Hebd.out, q6]; rfl
      subst ebt
      have p6 : m.status = 206 := by rw [Hest.out]; exact q6
      have p1 : h' = 1 := by have := h60 q6; omega
      have pok : ok = true := hh.2.1 p1
      by_cases ek : k = 1
      · have e_k := is1 ek
        obtain ⟨wb, HWb⟩ : ∃ wb, Hid (((((wc.setCell ⟨mb, 16, none⟩ (.string ⟨G.toArray⟩)).setCell ⟨mb, 13, none⟩ (.int .i64 b)).setCell ⟨mb, 18, none⟩ (.int .i64 a)).setCell ⟨mb, 19, none⟩ (.int .i64 t)) = wb) := ⟨_, rfl⟩
        have Rb : Hid (Row wb mb (encM limit nv vv (.int .i64 b) (.int .i64 a) (.int .i64 t) (headM m h' G R))) := by show Row _ _ _; rw [← HWb.out]; exact ((((HR7.out.set 16 (.string ⟨G.toArray⟩) (by simp [encM])).set 13 (.int .i64 b) (by simp [encM])).set 18 (.int .i64 a) (by simp [encM])).set 19 (.int .i64 t) (by simp [encM])).cast rfl
        have Kb : Hid (Only (· = mb) w wb) := by show Only _ _ _; rw [← HWb.out]; exact HB.out.trans (((((Only.refl _ wc).trans (Only.set (S := (· = mb)) _ 16 _ rfl)).trans (Only.set (S := (· = mb)) _ 13 _ rfl)).trans (Only.set (S := (· = mb)) _ 18 _ rfl)).trans (Only.set (S := (· = mb)) _ 19 _ rfl))
        have Ob : Hid (Only (· = mb) wc wb) := by show Only _ _ _; rw [← HWb.out]; exact ((((Only.refl _ wc).trans (Only.set (S := (· = mb)) _ 16 _ rfl)).trans (Only.set (S := (· = mb)) _ 13 _ rfl)).trans (Only.set (S := (· = mb)) _ 18 _ rfl)).trans (Only.set (S := (· = mb)) _ 19 _ rfl)
        have d0 : wb.cell? ⟨mb, 0, none⟩ = some (.int .i64 (m.at' : Int)) := Rb.out.cell 0 _ rfl
        have k0 := Rb.out.fro 0
        have d3 : wb.cell? ⟨mb, 3, none⟩ = some (.int .i64 (m.used : Int)) := Rb.out.cell 3 _ rfl
        have k3 := Rb.out.fro 3
        have d4 : wb.cell? ⟨mb, 4, none⟩ = some (.int .i64 (m.start : Int)) := Rb.out.cell 4 _ rfl
        have k4 := Rb.out.fro 4
        have d11 : wb.cell? ⟨mb, 11, none⟩ = some (.int .i64 (m.size : Int)) := Rb.out.cell 11 _ rfl
        have k11 := Rb.out.fro 11
        have hv : Hid (headP limit m n k g h' L C G R = some { headM m h' G R with at' := 8, used := 0, start := 0, size := 0 }) := headP_chunk HWB'.out Hb'.out ek
        have HK : Hid (Only (· = mb) w ((((wb.setCell ⟨mb, 0, none⟩ (.int .i64 8)).setCell ⟨mb, 3, none⟩ (.int .i64 0)).setCell ⟨mb, 4, none⟩ (.int .i64 0)).setCell ⟨mb, 11, none⟩ (.int .i64 0))) := ((((((((Kb.out).trans (Only.set (S := (· = mb)) _ 0 _ rfl))).trans (Only.set (S := (· = mb)) _ 3 _ rfl))).trans (Only.set (S := (· = mb)) _ 4 _ rfl))).trans (Only.set (S := (· = mb)) _ 11 _ rfl))
        have HF : Hid (Stepped mb limit (some { headM m h' G R with at' := 8, used := 0, start := 0, size := 0 }) ((((wb.setCell ⟨mb, 0, none⟩ (.int .i64 8)).setCell ⟨mb, 3, none⟩ (.int .i64 0)).setCell ⟨mb, 4, none⟩ (.int .i64 0)).setCell ⟨mb, 11, none⟩ (.int .i64 0))) := DM.mk' (m := m) (w := wc) (nv := nv) (vv := vv) (last := .int .i64 b) (fr := (.int .i64 a)) (tot := (.int .i64 t)) (((((Rb.out.set 0 (.int .i64 8) (by simp [encM])).set 3 (.int .i64 0) (by simp [encM])).set 4 (.int .i64 0) (by simp [encM])).set 11 (.int .i64 0) (by simp [encM])).cast rfl) rfl HN7.out HV7.out n1 n2 H3.out (((((Ob.out).trans (Only.set (S := (· = mb)) _ 0 _ rfl)).trans (Only.set (S := (· = mb)) _ 3 _ rfl)).trans (Only.set (S := (· = mb)) _ 4 _ rfl)).trans (Only.set (S := (· = mb)) _ 11 _ rfl)) ((HPt.out { headM m h' G R with at' := 8, used := 0, start := 0, size := 0 } rfl rfl rfl).1 p6 p1 pok)
        clear HR7 HN7 HV7 HB H3 HLs HS HPt HWB HWB' Hb' Hebd Hest Hesz Hw1 Hw2 q6 p6 p1 pok hh h60 Hsz ek Rb Kb Ob
        as_aux_lemma =>
          go_upto_region 17 with fail
          rw [HWb.out]
          clear c0 c2 c3 c4 c11 c13 c16 c18 c19 f0 f3 f4 f11 f13 f16 f18 f19
          go_wp2
          first | go_end0 | refine bodyPost_ret (results_none rfl _ _ _) rfl ?_
          exact ⟨rfl, by rw [hv.out]; exact HF.out, HK.out⟩
      · have e_k := is0' ek
        by_cases en : n = 1
        · have e_n := is1 en
          obtain ⟨hfw, hz0⟩ := Hsz.out en
          by_cases ez : sz = 0
          · have e_z := izz ez
            obtain ⟨wb, HWb⟩ : ∃ wb, Hid (((((wc.setCell ⟨mb, 16, none⟩ (.string ⟨G.toArray⟩)).setCell ⟨mb, 13, none⟩ (.int .i64 b)).setCell ⟨mb, 18, none⟩ (.int .i64 a)).setCell ⟨mb, 19, none⟩ (.int .i64 t)) = wb) := ⟨_, rfl⟩
            have Rb : Hid (Row wb mb (encM limit nv vv (.int .i64 b) (.int .i64 a) (.int .i64 t) (headM m h' G R))) := by show Row _ _ _; rw [← HWb.out]; exact ((((HR7.out.set 16 (.string ⟨G.toArray⟩) (by simp [encM])).set 13 (.int .i64 b) (by simp [encM])).set 18 (.int .i64 a) (by simp [encM])).set 19 (.int .i64 t) (by simp [encM])).cast rfl
            have Kb : Hid (Only (· = mb) w wb) := by show Only _ _ _; rw [← HWb.out]; exact HB.out.trans (((((Only.refl _ wc).trans (Only.set (S := (· = mb)) _ 16 _ rfl)).trans (Only.set (S := (· = mb)) _ 13 _ rfl)).trans (Only.set (S := (· = mb)) _ 18 _ rfl)).trans (Only.set (S := (· = mb)) _ 19 _ rfl))
            have Ob : Hid (Only (· = mb) wc wb) := by show Only _ _ _; rw [← HWb.out]; exact ((((Only.refl _ wc).trans (Only.set (S := (· = mb)) _ 16 _ rfl)).trans (Only.set (S := (· = mb)) _ 13 _ rfl)).trans (Only.set (S := (· = mb)) _ 18 _ rfl)).trans (Only.set (S := (· = mb)) _ 19 _ rfl)
            have d0 : wb.cell? ⟨mb, 0, none⟩ = some (.int .i64 (m.at' : Int)) := Rb.out.cell 0 _ rfl
            have k0 := Rb.out.fro 0
            have d3 : wb.cell? ⟨mb, 3, none⟩ = some (.int .i64 (m.used : Int)) := Rb.out.cell 3 _ rfl
            have k3 := Rb.out.fro 3
            have d4 : wb.cell? ⟨mb, 4, none⟩ = some (.int .i64 (m.start : Int)) := Rb.out.cell 4 _ rfl
            have k4 := Rb.out.fro 4
            have d11 : wb.cell? ⟨mb, 11, none⟩ = some (.int .i64 (m.size : Int)) := Rb.out.cell 11 _ rfl
            have k11 := Rb.out.fro 11
            have hv : Hid (headP limit m n k g h' L C G R = done (headM m h' G R)) := headP_zero HWB'.out Hb'.out ek en (by rw [hfw, ez]; rfl)
            have HD : Hid (DM mb limit (headM m h' G R) wb) := DM.mk' (m := m) (w := wc) (nv := nv) (vv := vv) (last := .int .i64 b) (fr := (.int .i64 a)) (tot := (.int .i64 t)) Rb.out rfl HN7.out HV7.out n1 n2 H3.out Ob.out ((HPt.out (headM m h' G R) rfl rfl rfl).1 p6 p1 pok)
            clear HR7 HN7 HV7 HB H3 HLs HS HPt HWB HWB' Hb' Hebd Hest Hesz Hw1 Hw2 q6 p6 p1 pok hh h60 Hsz ek en ez hfw hz0 Rb Ob
            as_aux_lemma =>
              go_upto_region 17 with fail
              rw [HWb.out]
              clear c0 c2 c3 c4 c11 c13 c16 c18 c19 f0 f3 f4 f11 f13 f16 f18 f19
              go_wp2_with fail
              refine (done_walk mb limit _ _ HD.out rfl hbd).mono ?_
              rintro e w9 ⟨rfl, hS9, hO9⟩
              have HS9 : Hid (Stepped mb limit (done (headM m h' G R)) w9) := hS9
              have HK9 : Hid (Only (· = mb) w w9) := Kb.out.trans hO9
              clear hS9 hO9
              go_wp2
              first | go_end0 | refine bodyPost_ret (results_none rfl _ _ _) rfl ?_
              exact ⟨rfl, by rw [hv.out]; exact HS9.out, HK9.out⟩
          · have e_z := izz' ez
            obtain ⟨v, ev⟩ : ∃ v : Nat, sz = (v : Int) := ⟨sz.toNat, by omega⟩
            have ev0 : v ≠ 0 := by omega
            have hfv : few L = some v := by rw [hfw, ev]; rfl
            clear Hesz hz0 hfw
            obtain ⟨wb, HWb⟩ : ∃ wb, Hid (((((wc.setCell ⟨mb, 16, none⟩ (.string ⟨G.toArray⟩)).setCell ⟨mb, 13, none⟩ (.int .i64 b)).setCell ⟨mb, 18, none⟩ (.int .i64 a)).setCell ⟨mb, 19, none⟩ (.int .i64 t)) = wb) := ⟨_, rfl⟩
            have Rb : Hid (Row wb mb (encM limit nv vv (.int .i64 b) (.int .i64 a) (.int .i64 t) (headM m h' G R))) := by show Row _ _ _; rw [← HWb.out]; exact ((((HR7.out.set 16 (.string ⟨G.toArray⟩) (by simp [encM])).set 13 (.int .i64 b) (by simp [encM])).set 18 (.int .i64 a) (by simp [encM])).set 19 (.int .i64 t) (by simp [encM])).cast rfl
            have Kb : Hid (Only (· = mb) w wb) := by show Only _ _ _; rw [← HWb.out]; exact HB.out.trans (((((Only.refl _ wc).trans (Only.set (S := (· = mb)) _ 16 _ rfl)).trans (Only.set (S := (· = mb)) _ 13 _ rfl)).trans (Only.set (S := (· = mb)) _ 18 _ rfl)).trans (Only.set (S := (· = mb)) _ 19 _ rfl))
            have Ob : Hid (Only (· = mb) wc wb) := by show Only _ _ _; rw [← HWb.out]; exact ((((Only.refl _ wc).trans (Only.set (S := (· = mb)) _ 16 _ rfl)).trans (Only.set (S := (· = mb)) _ 13 _ rfl)).trans (Only.set (S := (· = mb)) _ 18 _ rfl)).trans (Only.set (S := (· = mb)) _ 19 _ rfl)
            have d0 : wb.cell? ⟨mb, 0, none⟩ = some (.int .i64 (m.at' : Int)) := Rb.out.cell 0 _ rfl
            have k0 := Rb.out.fro 0
            have d3 : wb.cell? ⟨mb, 3, none⟩ = some (.int .i64 (m.used : Int)) := Rb.out.cell 3 _ rfl
            have k3 := Rb.out.fro 3
            have d4 : wb.cell? ⟨mb, 4, none⟩ = some (.int .i64 (m.start : Int)) := Rb.out.cell 4 _ rfl
            have k4 := Rb.out.fro 4
            have d11 : wb.cell? ⟨mb, 11, none⟩ = some (.int .i64 (m.size : Int)) := Rb.out.cell 11 _ rfl
            have k11 := Rb.out.fro 11
            have hv : Hid (headP limit m n k g h' L C G R = some { headM m h' G R with at' := 12, size := v }) := headP_count HWB'.out Hb'.out ek en hfv ev0
            have HK : Hid (Only (· = mb) w ((wb.setCell ⟨mb, 0, none⟩ (.int .i64 12)).setCell ⟨mb, 11, none⟩ (.int .i64 (v : Int)))) := ((((Kb.out).trans (Only.set (S := (· = mb)) _ 0 _ rfl))).trans (Only.set (S := (· = mb)) _ 11 _ rfl))
            have HF : Hid (Stepped mb limit (some { headM m h' G R with at' := 12, size := v }) ((wb.setCell ⟨mb, 0, none⟩ (.int .i64 12)).setCell ⟨mb, 11, none⟩ (.int .i64 (v : Int)))) := DM.mk' (m := m) (w := wc) (nv := nv) (vv := vv) (last := .int .i64 b) (fr := (.int .i64 a)) (tot := (.int .i64 t)) (((Rb.out.set 0 (.int .i64 12) (by simp [encM])).set 11 (.int .i64 (v : Int)) (by simp [encM])).cast rfl) rfl HN7.out HV7.out n1 n2 H3.out (((Ob.out).trans (Only.set (S := (· = mb)) _ 0 _ rfl)).trans (Only.set (S := (· = mb)) _ 11 _ rfl)) ((HPt.out { headM m h' G R with at' := 12, size := v } rfl rfl rfl).1 p6 p1 pok)
            clear HR7 HN7 HV7 HB H3 HLs HS HPt HWB HWB' Hb' Hebd Hest Hw1 Hw2 q6 p6 p1 pok hh h60 Hsz ek en ez ev0 hfv Rb Kb Ob
            subst ev
            as_aux_lemma =>
              go_upto_region 17 with fail
              rw [HWb.out]
              clear c0 c2 c3 c4 c11 c13 c16 c18 c19 f0 f3 f4 f11 f13 f16 f18 f19
              go_wp2
              first | go_end0 | refine bodyPost_ret (results_none rfl _ _ _) rfl ?_
              exact ⟨rfl, by rw [hv.out]; exact HF.out, HK.out⟩
        · have e_n := is0' en
          obtain ⟨wb, HWb⟩ : ∃ wb, Hid (((((wc.setCell ⟨mb, 16, none⟩ (.string ⟨G.toArray⟩)).setCell ⟨mb, 13, none⟩ (.int .i64 b)).setCell ⟨mb, 18, none⟩ (.int .i64 a)).setCell ⟨mb, 19, none⟩ (.int .i64 t)) = wb) := ⟨_, rfl⟩
          have Rb : Hid (Row wb mb (encM limit nv vv (.int .i64 b) (.int .i64 a) (.int .i64 t) (headM m h' G R))) := by show Row _ _ _; rw [← HWb.out]; exact ((((HR7.out.set 16 (.string ⟨G.toArray⟩) (by simp [encM])).set 13 (.int .i64 b) (by simp [encM])).set 18 (.int .i64 a) (by simp [encM])).set 19 (.int .i64 t) (by simp [encM])).cast rfl
          have Kb : Hid (Only (· = mb) w wb) := by show Only _ _ _; rw [← HWb.out]; exact HB.out.trans (((((Only.refl _ wc).trans (Only.set (S := (· = mb)) _ 16 _ rfl)).trans (Only.set (S := (· = mb)) _ 13 _ rfl)).trans (Only.set (S := (· = mb)) _ 18 _ rfl)).trans (Only.set (S := (· = mb)) _ 19 _ rfl))
          have Ob : Hid (Only (· = mb) wc wb) := by show Only _ _ _; rw [← HWb.out]; exact ((((Only.refl _ wc).trans (Only.set (S := (· = mb)) _ 16 _ rfl)).trans (Only.set (S := (· = mb)) _ 13 _ rfl)).trans (Only.set (S := (· = mb)) _ 18 _ rfl)).trans (Only.set (S := (· = mb)) _ 19 _ rfl)
          have d0 : wb.cell? ⟨mb, 0, none⟩ = some (.int .i64 (m.at' : Int)) := Rb.out.cell 0 _ rfl
          have k0 := Rb.out.fro 0
          have d3 : wb.cell? ⟨mb, 3, none⟩ = some (.int .i64 (m.used : Int)) := Rb.out.cell 3 _ rfl
          have k3 := Rb.out.fro 3
          have d4 : wb.cell? ⟨mb, 4, none⟩ = some (.int .i64 (m.start : Int)) := Rb.out.cell 4 _ rfl
          have k4 := Rb.out.fro 4
          have d11 : wb.cell? ⟨mb, 11, none⟩ = some (.int .i64 (m.size : Int)) := Rb.out.cell 11 _ rfl
          have k11 := Rb.out.fro 11
          have hv : Hid (headP limit m n k g h' L C G R = some { headM m h' G R with at' := 13 }) := headP_rest HWB'.out Hb'.out ek en
          have HK : Hid (Only (· = mb) w (wb.setCell ⟨mb, 0, none⟩ (.int .i64 13))) := ((Kb.out).trans (Only.set (S := (· = mb)) _ 0 _ rfl))
          have HF : Hid (Stepped mb limit (some { headM m h' G R with at' := 13 }) (wb.setCell ⟨mb, 0, none⟩ (.int .i64 13))) := DM.mk' (m := m) (w := wc) (nv := nv) (vv := vv) (last := .int .i64 b) (fr := (.int .i64 a)) (tot := (.int .i64 t)) ((Rb.out.set 0 (.int .i64 13) (by simp [encM])).cast rfl) rfl HN7.out HV7.out n1 n2 H3.out ((Ob.out).trans (Only.set (S := (· = mb)) _ 0 _ rfl)) ((HPt.out { headM m h' G R with at' := 13 } rfl rfl rfl).1 p6 p1 pok)
          clear HR7 HN7 HV7 HB H3 HLs HS HPt HWB HWB' Hb' Hebd Hest Hesz Hw1 Hw2 q6 p6 p1 pok hh h60 Hsz ek en Rb Kb Ob
          as_aux_lemma =>
            go_upto_region 17 with fail
            rw [HWb.out]
            clear c0 c2 c3 c4 c11 c13 c16 c18 c19 f0 f3 f4 f11 f13 f16 f18 f19
            go_wp2
            first | go_end0 | refine bodyPost_ret (results_none rfl _ _ _) rfl ?_
            exact ⟨rfl, by rw [hv.out]; exact HF.out, HK.out⟩
    · have b6 := is206' q6
      cases bd with
      | false =>
        have p6 : m.status ≠ 206 := by rw [Hest.out]; exact q6
        obtain ⟨wb, HWb⟩ : ∃ wb, Hid (((wc.setCell ⟨mb, 16, none⟩ (.string ⟨G.toArray⟩)).setCell ⟨mb, 13, none⟩ (.int .i64 b)) = wb) := ⟨_, rfl⟩
        have Rb : Hid (Row wb mb (encM limit nv vv (.int .i64 b) (.int .i64 0) (.int .i64 0) (headM m h' G R))) := by show Row _ _ _; rw [← HWb.out]; exact ((HR7.out.set 16 (.string ⟨G.toArray⟩) (by simp [encM])).set 13 (.int .i64 b) (by simp [encM])).cast rfl
        have Kb : Hid (Only (· = mb) w wb) := by show Only _ _ _; rw [← HWb.out]; exact HB.out.trans (((Only.refl _ wc).trans (Only.set (S := (· = mb)) _ 16 _ rfl)).trans (Only.set (S := (· = mb)) _ 13 _ rfl))
        have Ob : Hid (Only (· = mb) wc wb) := by show Only _ _ _; rw [← HWb.out]; exact ((Only.refl _ wc).trans (Only.set (S := (· = mb)) _ 16 _ rfl)).trans (Only.set (S := (· = mb)) _ 13 _ rfl)
        have d0 : wb.cell? ⟨mb, 0, none⟩ = some (.int .i64 (m.at' : Int)) := Rb.out.cell 0 _ rfl
        have k0 := Rb.out.fro 0
        have d3 : wb.cell? ⟨mb, 3, none⟩ = some (.int .i64 (m.used : Int)) := Rb.out.cell 3 _ rfl
        have k3 := Rb.out.fro 3
        have d4 : wb.cell? ⟨mb, 4, none⟩ = some (.int .i64 (m.start : Int)) := Rb.out.cell 4 _ rfl
        have k4 := Rb.out.fro 4
        have d11 : wb.cell? ⟨mb, 11, none⟩ = some (.int .i64 (m.size : Int)) := Rb.out.cell 11 _ rfl
        have k11 := Rb.out.fro 11
        have hv : Hid (headP limit m n k g h' L C G R = some { headM m h' G R with at' := 14 }) := headP_no HWB'.out Hb'.out
        have HK : Hid (Only (· = mb) w (wb.setCell ⟨mb, 0, none⟩ (.int .i64 14))) := ((Kb.out).trans (Only.set (S := (· = mb)) _ 0 _ rfl))
        have HF : Hid (Stepped mb limit (some { headM m h' G R with at' := 14 }) (wb.setCell ⟨mb, 0, none⟩ (.int .i64 14))) := DM.mk' (m := m) (w := wc) (nv := nv) (vv := vv) (last := .int .i64 b) (fr := (.int .i64 0)) (tot := (.int .i64 0)) ((Rb.out.set 0 (.int .i64 14) (by simp [encM])).cast rfl) rfl HN7.out HV7.out n1 n2 H3.out ((Ob.out).trans (Only.set (S := (· = mb)) _ 0 _ rfl)) ((HPt.out { headM m h' G R with at' := 14 } rfl rfl rfl).2 p6)
        clear HR7 HN7 HV7 HB H3 HLs HS HPt HWB HWB' Hb' Hebd Hest Hesz Hw1 Hw2 q6 p6 hh h60 Hsz Rb Kb Ob
        as_aux_lemma =>
          go_upto_region 17 with fail
          rw [HWb.out]
          clear c0 c2 c3 c4 c11 c13 c16 c18 c19 f0 f3 f4 f11 f13 f16 f18 f19
          go_wp2
          first | go_end0 | refine bodyPost_ret (results_none rfl _ _ _) rfl ?_
          exact ⟨rfl, by rw [hv.out]; exact HF.out, HK.out⟩
      | true =>
        have p6 : m.status ≠ 206 := by rw [Hest.out]; exact q6
        by_cases ek : k = 1
        · have e_k := is1 ek
          obtain ⟨wb, HWb⟩ : ∃ wb, Hid (((wc.setCell ⟨mb, 16, none⟩ (.string ⟨G.toArray⟩)).setCell ⟨mb, 13, none⟩ (.int .i64 b)) = wb) := ⟨_, rfl⟩
          have Rb : Hid (Row wb mb (encM limit nv vv (.int .i64 b) (.int .i64 0) (.int .i64 0) (headM m h' G R))) := by show Row _ _ _; rw [← HWb.out]; exact ((HR7.out.set 16 (.string ⟨G.toArray⟩) (by simp [encM])).set 13 (.int .i64 b) (by simp [encM])).cast rfl
          have Kb : Hid (Only (· = mb) w wb) := by show Only _ _ _; rw [← HWb.out]; exact HB.out.trans (((Only.refl _ wc).trans (Only.set (S := (· = mb)) _ 16 _ rfl)).trans (Only.set (S := (· = mb)) _ 13 _ rfl))
          have Ob : Hid (Only (· = mb) wc wb) := by show Only _ _ _; rw [← HWb.out]; exact ((Only.refl _ wc).trans (Only.set (S := (· = mb)) _ 16 _ rfl)).trans (Only.set (S := (· = mb)) _ 13 _ rfl)
          have d0 : wb.cell? ⟨mb, 0, none⟩ = some (.int .i64 (m.at' : Int)) := Rb.out.cell 0 _ rfl
          have k0 := Rb.out.fro 0
          have d3 : wb.cell? ⟨mb, 3, none⟩ = some (.int .i64 (m.used : Int)) := Rb.out.cell 3 _ rfl
          have k3 := Rb.out.fro 3
          have d4 : wb.cell? ⟨mb, 4, none⟩ = some (.int .i64 (m.start : Int)) := Rb.out.cell 4 _ rfl
          have k4 := Rb.out.fro 4
          have d11 : wb.cell? ⟨mb, 11, none⟩ = some (.int .i64 (m.size : Int)) := Rb.out.cell 11 _ rfl
          have k11 := Rb.out.fro 11
          have hv : Hid (headP limit m n k g h' L C G R = some { headM m h' G R with at' := 8, used := 0, start := 0, size := 0 }) := headP_chunk HWB'.out Hb'.out ek
          have HK : Hid (Only (· = mb) w ((((wb.setCell ⟨mb, 0, none⟩ (.int .i64 8)).setCell ⟨mb, 3, none⟩ (.int .i64 0)).setCell ⟨mb, 4, none⟩ (.int .i64 0)).setCell ⟨mb, 11, none⟩ (.int .i64 0))) := ((((((((Kb.out).trans (Only.set (S := (· = mb)) _ 0 _ rfl))).trans (Only.set (S := (· = mb)) _ 3 _ rfl))).trans (Only.set (S := (· = mb)) _ 4 _ rfl))).trans (Only.set (S := (· = mb)) _ 11 _ rfl))
          have HF : Hid (Stepped mb limit (some { headM m h' G R with at' := 8, used := 0, start := 0, size := 0 }) ((((wb.setCell ⟨mb, 0, none⟩ (.int .i64 8)).setCell ⟨mb, 3, none⟩ (.int .i64 0)).setCell ⟨mb, 4, none⟩ (.int .i64 0)).setCell ⟨mb, 11, none⟩ (.int .i64 0))) := DM.mk' (m := m) (w := wc) (nv := nv) (vv := vv) (last := .int .i64 b) (fr := (.int .i64 0)) (tot := (.int .i64 0)) (((((Rb.out.set 0 (.int .i64 8) (by simp [encM])).set 3 (.int .i64 0) (by simp [encM])).set 4 (.int .i64 0) (by simp [encM])).set 11 (.int .i64 0) (by simp [encM])).cast rfl) rfl HN7.out HV7.out n1 n2 H3.out (((((Ob.out).trans (Only.set (S := (· = mb)) _ 0 _ rfl)).trans (Only.set (S := (· = mb)) _ 3 _ rfl)).trans (Only.set (S := (· = mb)) _ 4 _ rfl)).trans (Only.set (S := (· = mb)) _ 11 _ rfl)) ((HPt.out { headM m h' G R with at' := 8, used := 0, start := 0, size := 0 } rfl rfl rfl).2 p6)
          clear HR7 HN7 HV7 HB H3 HLs HS HPt HWB HWB' Hb' Hebd Hest Hesz Hw1 Hw2 q6 p6 hh h60 Hsz ek Rb Kb Ob
          as_aux_lemma =>
            go_upto_region 17 with fail
            rw [HWb.out]
            clear c0 c2 c3 c4 c11 c13 c16 c18 c19 f0 f3 f4 f11 f13 f16 f18 f19
            go_wp2
            first | go_end0 | refine bodyPost_ret (results_none rfl _ _ _) rfl ?_
            exact ⟨rfl, by rw [hv.out]; exact HF.out, HK.out⟩
        · have e_k := is0' ek
          by_cases en : n = 1
          · have e_n := is1 en
            obtain ⟨hfw, hz0⟩ := Hsz.out en
            by_cases ez : sz = 0
            · have e_z := izz ez
              obtain ⟨wb, HWb⟩ : ∃ wb, Hid (((wc.setCell ⟨mb, 16, none⟩ (.string ⟨G.toArray⟩)).setCell ⟨mb, 13, none⟩ (.int .i64 b)) = wb) := ⟨_, rfl⟩
              have Rb : Hid (Row wb mb (encM limit nv vv (.int .i64 b) (.int .i64 0) (.int .i64 0) (headM m h' G R))) := by show Row _ _ _; rw [← HWb.out]; exact ((HR7.out.set 16 (.string ⟨G.toArray⟩) (by simp [encM])).set 13 (.int .i64 b) (by simp [encM])).cast rfl
              have Kb : Hid (Only (· = mb) w wb) := by show Only _ _ _; rw [← HWb.out]; exact HB.out.trans (((Only.refl _ wc).trans (Only.set (S := (· = mb)) _ 16 _ rfl)).trans (Only.set (S := (· = mb)) _ 13 _ rfl))
              have Ob : Hid (Only (· = mb) wc wb) := by show Only _ _ _; rw [← HWb.out]; exact ((Only.refl _ wc).trans (Only.set (S := (· = mb)) _ 16 _ rfl)).trans (Only.set (S := (· = mb)) _ 13 _ rfl)
              have d0 : wb.cell? ⟨mb, 0, none⟩ = some (.int .i64 (m.at' : Int)) := Rb.out.cell 0 _ rfl
              have k0 := Rb.out.fro 0
              have d3 : wb.cell? ⟨mb, 3, none⟩ = some (.int .i64 (m.used : Int)) := Rb.out.cell 3 _ rfl
              have k3 := Rb.out.fro 3
              have d4 : wb.cell? ⟨mb, 4, none⟩ = some (.int .i64 (m.start : Int)) := Rb.out.cell 4 _ rfl
              have k4 := Rb.out.fro 4
              have d11 : wb.cell? ⟨mb, 11, none⟩ = some (.int .i64 (m.size : Int)) := Rb.out.cell 11 _ rfl
              have k11 := Rb.out.fro 11
              have hv : Hid (headP limit m n k g h' L C G R = done (headM m h' G R)) := headP_zero HWB'.out Hb'.out ek en (by rw [hfw, ez]; rfl)
              have HD : Hid (DM mb limit (headM m h' G R) wb) := DM.mk' (m := m) (w := wc) (nv := nv) (vv := vv) (last := .int .i64 b) (fr := (.int .i64 0)) (tot := (.int .i64 0)) Rb.out rfl HN7.out HV7.out n1 n2 H3.out Ob.out ((HPt.out (headM m h' G R) rfl rfl rfl).2 p6)
              clear HR7 HN7 HV7 HB H3 HLs HS HPt HWB HWB' Hb' Hebd Hest Hesz Hw1 Hw2 q6 p6 hh h60 Hsz ek en ez hfw hz0 Rb Ob
              as_aux_lemma =>
                go_upto_region 17 with fail
                rw [HWb.out]
                clear c0 c2 c3 c4 c11 c13 c16 c18 c19 f0 f3 f4 f11 f13 f16 f18 f19
                go_wp2_with fail
                refine (done_walk mb limit _ _ HD.out rfl hbd).mono ?_
                rintro e w9 ⟨rfl, hS9, hO9⟩
                have HS9 : Hid (Stepped mb limit (done (headM m h' G R)) w9) := hS9
                have HK9 : Hid (Only (· = mb) w w9) := Kb.out.trans hO9
                clear hS9 hO9
                go_wp2
                first | go_end0 | refine bodyPost_ret (results_none rfl _ _ _) rfl ?_
                exact ⟨rfl, by rw [hv.out]; exact HS9.out, HK9.out⟩
            · have e_z := izz' ez
              obtain ⟨v, ev⟩ : ∃ v : Nat, sz = (v : Int) := ⟨sz.toNat, by omega⟩
              have ev0 : v ≠ 0 := by omega
              have hfv : few L = some v := by rw [hfw, ev]; rfl
              clear Hesz hz0 hfw
              obtain ⟨wb, HWb⟩ : ∃ wb, Hid (((wc.setCell ⟨mb, 16, none⟩ (.string ⟨G.toArray⟩)).setCell ⟨mb, 13, none⟩ (.int .i64 b)) = wb) := ⟨_, rfl⟩
              have Rb : Hid (Row wb mb (encM limit nv vv (.int .i64 b) (.int .i64 0) (.int .i64 0) (headM m h' G R))) := by show Row _ _ _; rw [← HWb.out]; exact ((HR7.out.set 16 (.string ⟨G.toArray⟩) (by simp [encM])).set 13 (.int .i64 b) (by simp [encM])).cast rfl
              have Kb : Hid (Only (· = mb) w wb) := by show Only _ _ _; rw [← HWb.out]; exact HB.out.trans (((Only.refl _ wc).trans (Only.set (S := (· = mb)) _ 16 _ rfl)).trans (Only.set (S := (· = mb)) _ 13 _ rfl))
              have Ob : Hid (Only (· = mb) wc wb) := by show Only _ _ _; rw [← HWb.out]; exact ((Only.refl _ wc).trans (Only.set (S := (· = mb)) _ 16 _ rfl)).trans (Only.set (S := (· = mb)) _ 13 _ rfl)
              have d0 : wb.cell? ⟨mb, 0, none⟩ = some (.int .i64 (m.at' : Int)) := Rb.out.cell 0 _ rfl
              have k0 := Rb.out.fro 0
              have d3 : wb.cell? ⟨mb, 3, none⟩ = some (.int .i64 (m.used : Int)) := Rb.out.cell 3 _ rfl
              have k3 := Rb.out.fro 3
              have d4 : wb.cell? ⟨mb, 4, none⟩ = some (.int .i64 (m.start : Int)) := Rb.out.cell 4 _ rfl
              have k4 := Rb.out.fro 4
              have d11 : wb.cell? ⟨mb, 11, none⟩ = some (.int .i64 (m.size : Int)) := Rb.out.cell 11 _ rfl
              have k11 := Rb.out.fro 11
              have hv : Hid (headP limit m n k g h' L C G R = some { headM m h' G R with at' := 12, size := v }) := headP_count HWB'.out Hb'.out ek en hfv ev0
              have HK : Hid (Only (· = mb) w ((wb.setCell ⟨mb, 0, none⟩ (.int .i64 12)).setCell ⟨mb, 11, none⟩ (.int .i64 (v : Int)))) := ((((Kb.out).trans (Only.set (S := (· = mb)) _ 0 _ rfl))).trans (Only.set (S := (· = mb)) _ 11 _ rfl))
              have HF : Hid (Stepped mb limit (some { headM m h' G R with at' := 12, size := v }) ((wb.setCell ⟨mb, 0, none⟩ (.int .i64 12)).setCell ⟨mb, 11, none⟩ (.int .i64 (v : Int)))) := DM.mk' (m := m) (w := wc) (nv := nv) (vv := vv) (last := .int .i64 b) (fr := (.int .i64 0)) (tot := (.int .i64 0)) (((Rb.out.set 0 (.int .i64 12) (by simp [encM])).set 11 (.int .i64 (v : Int)) (by simp [encM])).cast rfl) rfl HN7.out HV7.out n1 n2 H3.out (((Ob.out).trans (Only.set (S := (· = mb)) _ 0 _ rfl)).trans (Only.set (S := (· = mb)) _ 11 _ rfl)) ((HPt.out { headM m h' G R with at' := 12, size := v } rfl rfl rfl).2 p6)
              clear HR7 HN7 HV7 HB H3 HLs HS HPt HWB HWB' Hb' Hebd Hest Hw1 Hw2 q6 p6 hh h60 Hsz ek en ez ev0 hfv Rb Kb Ob
              subst ev
              as_aux_lemma =>
                go_upto_region 17 with fail
                rw [HWb.out]
                clear c0 c2 c3 c4 c11 c13 c16 c18 c19 f0 f3 f4 f11 f13 f16 f18 f19
                go_wp2
                first | go_end0 | refine bodyPost_ret (results_none rfl _ _ _) rfl ?_
                exact ⟨rfl, by rw [hv.out]; exact HF.out, HK.out⟩
          · have e_n := is0' en
            obtain ⟨wb, HWb⟩ : ∃ wb, Hid (((wc.setCell ⟨mb, 16, none⟩ (.string ⟨G.toArray⟩)).setCell ⟨mb, 13, none⟩ (.int .i64 b)) = wb) := ⟨_, rfl⟩
            have Rb : Hid (Row wb mb (encM limit nv vv (.int .i64 b) (.int .i64 0) (.int .i64 0) (headM m h' G R))) := by show Row _ _ _; rw [← HWb.out]; exact ((HR7.out.set 16 (.string ⟨G.toArray⟩) (by simp [encM])).set 13 (.int .i64 b) (by simp [encM])).cast rfl
            have Kb : Hid (Only (· = mb) w wb) := by show Only _ _ _; rw [← HWb.out]; exact HB.out.trans (((Only.refl _ wc).trans (Only.set (S := (· = mb)) _ 16 _ rfl)).trans (Only.set (S := (· = mb)) _ 13 _ rfl))
            have Ob : Hid (Only (· = mb) wc wb) := by show Only _ _ _; rw [← HWb.out]; exact ((Only.refl _ wc).trans (Only.set (S := (· = mb)) _ 16 _ rfl)).trans (Only.set (S := (· = mb)) _ 13 _ rfl)
            have d0 : wb.cell? ⟨mb, 0, none⟩ = some (.int .i64 (m.at' : Int)) := Rb.out.cell 0 _ rfl
            have k0 := Rb.out.fro 0
            have d3 : wb.cell? ⟨mb, 3, none⟩ = some (.int .i64 (m.used : Int)) := Rb.out.cell 3 _ rfl
            have k3 := Rb.out.fro 3
            have d4 : wb.cell? ⟨mb, 4, none⟩ = some (.int .i64 (m.start : Int)) := Rb.out.cell 4 _ rfl
            have k4 := Rb.out.fro 4
            have d11 : wb.cell? ⟨mb, 11, none⟩ = some (.int .i64 (m.size : Int)) := Rb.out.cell 11 _ rfl
            have k11 := Rb.out.fro 11
            have hv : Hid (headP limit m n k g h' L C G R = some { headM m h' G R with at' := 13 }) := headP_rest HWB'.out Hb'.out ek en
            have HK : Hid (Only (· = mb) w (wb.setCell ⟨mb, 0, none⟩ (.int .i64 13))) := ((Kb.out).trans (Only.set (S := (· = mb)) _ 0 _ rfl))
            have HF : Hid (Stepped mb limit (some { headM m h' G R with at' := 13 }) (wb.setCell ⟨mb, 0, none⟩ (.int .i64 13))) := DM.mk' (m := m) (w := wc) (nv := nv) (vv := vv) (last := .int .i64 b) (fr := (.int .i64 0)) (tot := (.int .i64 0)) ((Rb.out.set 0 (.int .i64 13) (by simp [encM])).cast rfl) rfl HN7.out HV7.out n1 n2 H3.out ((Ob.out).trans (Only.set (S := (· = mb)) _ 0 _ rfl)) ((HPt.out { headM m h' G R with at' := 13 } rfl rfl rfl).2 p6)
            clear HR7 HN7 HV7 HB H3 HLs HS HPt HWB HWB' Hb' Hebd Hest Hesz Hw1 Hw2 q6 p6 hh h60 Hsz ek en Rb Kb Ob
            as_aux_lemma =>
              go_upto_region 17 with fail
              rw [HWb.out]
              clear c0 c2 c3 c4 c11 c13 c16 c18 c19 f0 f3 f4 f11 f13 f16 f18 f19
              go_wp2
              first | go_end0 | refine bodyPost_ret (results_none rfl _ _ _) rfl ?_
              exact ⟨rfl, by rw [hv.out]; exact HF.out, HK.out⟩
end Go.Proofs.YtmodongnganbfaaGreatDoor.Rep
