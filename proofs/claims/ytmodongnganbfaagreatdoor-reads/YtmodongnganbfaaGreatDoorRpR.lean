/- Replies: the program's understand. -/
import Derived.Test.YtmodongnganbfaaGreatDoorRpQ
namespace Go.Proofs.YtmodongnganbfaaGreatDoor.Rep
open Go.RowKit Go.Proofs.YtmodongnganbfaaGreatDoor Go.Proofs.YtmodongnganbfaaGreatDoor.Sha Go.Proofs.YtmodongnganbfaaGreatDoor.Inf
/-- Fields in memory. -/
def FAt (w : World) (ao : Option Addr) (fs : List (Bytes × Bytes)) : Prop := ∀ i (hi : i < fs.length), ∃ g off, ao = some ⟨g, off, none⟩ ∧ g < w.heap.size ∧ w.cell? ⟨g, off + i * 2, none⟩ = some (.string ⟨(fs[i]).1.toArray⟩) ∧ w.cell? ⟨g, off + i * 2 + 1, none⟩ = some (.string ⟨(fs[i]).2.toArray⟩)
theorem FAt.below {w w' : World} {ao : Option Addr} {fs : List (Bytes × Bytes)} (h : FAt w ao fs) (hb : Below w.heap.size w w') : FAt w' ao fs := by
  intro i hi
  obtain ⟨g, off, e, hg, h1, h2⟩ := h i hi
  exact ⟨g, off, e, Nat.lt_of_lt_of_le hg hb.size, cell_below hb h1, cell_below hb h2⟩
theorem fcells_get : ∀ (fs : List (Bytes × Bytes)) (k : Nat) (hk : k < fs.length), (fs.flatMap fcells)[k * 2]? = some (.string ⟨(fs[k]).1.toArray⟩) ∧ (fs.flatMap fcells)[k * 2 + 1]? = some (.string ⟨(fs[k]).2.toArray⟩)
  | [], k, hk => by simp at hk
  | f :: fs, 0, _ => by rw [List.flatMap_cons]; exact ⟨rfl, rfl⟩
  | f :: fs, k + 1, hk => by
    have ih := fcells_get fs k (by simpa using hk)
    rw [List.flatMap_cons]
    have e1 : (k + 1) * 2 = (k * 2) + 2 := by omega
    rw [e1]
    exact ih
theorem row_fat {w : World} {base : Nat} {e : TypeId} {v : Value} {fs : List (Bytes × Bytes)} (h : w.ownsRow base e 2 v fs.length (fs.flatMap fcells)) : ∃ ao cap, v = .slice ao fs.length cap ∧ fs.length ≤ cap ∧ FAt w ao fs := by
  rcases h.2 with ⟨rfl, h0⟩ | ⟨g, cap, cur, rfl, hb, hg, hc, hm, hs, ht⟩
  · refine ⟨none, 0, by rw [h0], by omega, fun i hi => ?_⟩
    omega
  · refine ⟨some ⟨g, 0, none⟩, cap, rfl, hc, fun i hi => ⟨g, 0, rfl, (Array.getElem?_eq_some_iff.1 hg).1, ?_, ?_⟩⟩
    · have q := h.cells rfl _ _ (fcells_get fs i hi).1
      simp only [Addr.add] at q
      by_cases h0 : i * 2 = 0
      · rw [if_pos h0] at q
        rw [h0]; exact q
      · rw [if_neg h0] at q
        exact q
    · have q := h.cells rfl _ _ (fcells_get fs i hi).2
      simp only [Addr.add] at q
      exact q
theorem prow_new (w : World) (arr : Array Value) (t : TypeId) (b : Nat) (hb : w.heap.size = b) : Row (w.alloc (.cells arr t)) b arr.toList := by
  subst hb
  refine ⟨fun i v hi => ?_, fun i => by simp⟩
  rw [World.cell?_alloc_at _ _ _ _ rfl]
  simpa using hi
structure USt (st : Nat) (fs : List (Bytes × Bytes)) (w : World) (rb hb : Nat) (ao : Option Addr) (k : Nat) (n : Note) (wr : World) : Prop where
  row : Row wr hb (encH (hdN st n))
  res : Row wr rb (encH Hd.none)
  bel : Below w.heap.size w wr
  at' : FAt wr ao fs
  eq : notes Note.none (fs.map lowF) = notes n ((fs.drop k).map lowF)
  ok : NoteOk n
/-- The note of a head that may stand. -/
def goodN (st limit : Nat) (fs : List (Bytes × Bytes)) : Option Note := (notes Note.none (fs.map lowF)).bind fun s => if fits st limit s.head then some s else none
/-- How understand ends. -/
def UndE (st limit : Nat) (fs : List (Bytes × Bytes)) (e : Ending) : Prop :=
  (∃ s, goodN st limit fs = some s ∧ NoteOk s ∧ e = .returned (.tuple #[.agg (encH (hdN st s)).toArray, .nilIface])) ∨
  (goodN st limit fs = none ∧ ∃ t x, e = .returned (.tuple #[.agg (encH Hd.none).toArray, .iface t x]))
set_option maxRecDepth 100000 in
set_option maxHeartbeats 8000000 in
theorem understand_walk (st limit : Nat) (v : Value) (fs : List (Bytes × Bytes)) (base : Nat) (ad : Nat → Addr) (B : Nat) (mx : Int) (w : World) (hX : RepX ad B mx w) (hB0 : B ≤ w.heap.size) (hrow : w.ownsRow base 88 2 v fs.length (fs.flatMap fcells)) (hgf : goodF fs) (hn : fs.length ≤ 400) :
    Calls Tryz.prog 42 #[.int .i64 (st : Int), v, .int .i64 (limit : Int)] w fun e w' => UndE st limit fs e ∧ Below w.heap.size w w' := by
  obtain ⟨ao, cap, rfl, hcap, hF⟩ := row_fat hrow
  have HX : Hid (RepX ad B mx w) := hX
  have HGw : Hid (∀ g off, ao = some ⟨g, off, none⟩ → fs ≠ [] → g < w.heap.size) := fun g off e hne => by
    obtain ⟨g', off', e', hg', _⟩ := hF 0 (List.length_pos_iff.2 hne)
    rw [e] at e'
    injection e' with e'
    injection e' with e1 _ _
    rw [e1]; exact hg'
  have HFs : Hid (FAt w ao fs) := hF
  have HG : Hid (goodF fs) := hgf
  obtain ⟨len, hlen⟩ : ∃ len, fs.length = len := ⟨_, rfl⟩
  have Hlen : Hid (fs.length = len) := hlen
  rw [hlen] at hcap hn
  rw [hlen]
  clear hX hF hrow hgf hlen
  go_enter Tryz.func42, Tryz.ntmps42
  go_wp2
  obtain ⟨w0, HW0⟩ : ∃ w0, Hid ((w.alloc (.cells #[.int .i64 0, .bool false, .int .i64 0, .bool false, .bool false, .string ⟨#[]⟩, .bool false, .int .i64 0, .int .i64 0, .int .i64 0] 47)).alloc (.cells #[.int .i64 (st : Int), .bool false, .int .i64 0, .bool false, .bool false, .string ⟨#[]⟩, .bool false, .int .i64 0, .int .i64 0, .int .i64 0] 47) = w0) := ⟨_, rfl⟩
  rw [HW0.out]
  obtain ⟨hb, hhb⟩ : ∃ hb, w.heap.size + 1 = hb := ⟨_, rfl⟩
  obtain ⟨rb, hrb⟩ : ∃ rb, w.heap.size = rb := ⟨_, rfl⟩
  have Hrb : Hid (w.heap.size = rb) := hrb
  have hne : rb ≠ hb := by omega
  have HS0 : Hid (USt st fs w rb hb ao 0 Note.none w0) := by
    have hb0 : Below w.heap.size w w0 := by rw [← HW0.out]; exact (((Below.refl _ _).alloc (Nat.le_refl _) _).alloc (by simp) _)
    refine ⟨?_, ?_, hb0, HFs.out.below hb0, rfl, noteOk_none⟩
    · rw [← HW0.out]; exact prow_new (w.alloc (.cells #[.int .i64 0, .bool false, .int .i64 0, .bool false, .bool false, .string ⟨#[]⟩, .bool false, .int .i64 0, .int .i64 0, .int .i64 0] 47)) #[.int .i64 (st : Int), .bool false, .int .i64 0, .bool false, .bool false, .string ⟨#[]⟩, .bool false, .int .i64 0, .int .i64 0, .int .i64 0] _ hb (by simp; omega)
    · rw [← HW0.out]; exact ((prow_new w #[.int .i64 0, .bool false, .int .i64 0, .bool false, .bool false, .string ⟨#[]⟩, .bool false, .int .i64 0, .int .i64 0, .int .i64 0] _ rb hrb).alloc (by simp) _)
  have hrl : w.heap.size ≤ rb := by omega
  have hhl : w.heap.size ≤ hb := by omega
  have hBh : B ≤ hb := by omega
  rw [hhb, hrb]
  clear HW0 hhb hrb HFs
  go_loopw [17] (fun iv wr => ∃ (k : Nat) (n : Note), iv = .int .i64 (k : Int) ∧ k ≤ len ∧ Hid (USt st fs w rb hb ao k n wr)) (fun iv _ => len - (intOf iv).toNat)
  case atStart => exact ⟨0, Note.none, rfl, Nat.zero_le _, HS0⟩
  case round =>
    obtain ⟨k, n, rfl, hk, HS⟩ := hrel
    by_cases hlt : k < len
    · have hlt' : (k : Int) < (len : Int) := by omega
      have hkf : k < fs.length := by rw [Hlen.out]; exact hlt
      obtain ⟨g, off, eao, hgl, e0, e1⟩ := HS.out.at' k hkf
      obtain ⟨f, hf⟩ : ∃ f, fs[k] = f := ⟨_, rfl⟩
      have Hm : Hid (f ∈ fs) := by show _ ∈ _; rw [← hf]; exact List.getElem_mem hkf
      have HDr : Hid (fs.drop k = f :: fs.drop (k + 1)) := by show _ = _; rw [List.drop_eq_getElem_cons hkf, hf]
      rw [hf] at e0 e1
      subst eao
      obtain ⟨w1, HW1⟩ : ∃ w1, Hid (wr.alloc (.cells #[.string ⟨f.1.toArray⟩, .string ⟨f.2.toArray⟩] 88) = w1) := ⟨_, rfl⟩
      have HB1 : Hid (Below wr.heap.size wr w1) := by show Below _ _ _; rw [← HW1.out]; exact (Below.refl _ _).alloc (Nat.le_refl _) _
      have HBw : Hid (Below w.heap.size w w1) := HS.out.bel.trans (HB1.out.mono HS.out.bel.size)
      have hX1 := HX.out.keep (HBw.out.mono hB0)
      have hr1 : Row w1 hb (encH (hdN st n)) := HS.out.row.below (by simp [encH]) HB1.out
      obtain ⟨q1, q2, q3, q4⟩ := HG.out f Hm.out
      have HC : Calls Tryz.prog 60 #[.pointer (some ⟨hb, 0, none⟩), .agg #[.string ⟨f.1.toArray⟩, .string ⟨f.2.toArray⟩]] w1 fun e w' => NoteE hb st (note n (lowF f)) e w' ∧ Only (· = hb) w1 w' := note_walk hb st n f ad B mx w1 hr1 hX1 hBh q1 q2 q3 q4
      clear hX1 hr1 q1 q2 q3 q4 hf hkf
      go_wp2_with fail
      rw [HW1.out]
      refine HC.mono ?_
      rintro e w2 ⟨hE, hO⟩
      have hl1 : hb < w1.heap.size := Nat.lt_of_lt_of_le (HS.out.row.lt (by simp [encH])) HB1.out.size
      have hB2 : Below w.heap.size w w2 := HBw.out.trans (only_keeps hO hhl hl1)
      have hR2 : Row w2 rb (encH Hd.none) := (HS.out.res.below (by simp [encH]) HB1.out).only (by simp [encH]) hO hne
      have HB2 : Hid (Below w.heap.size w w2) := hB2
      have HR2 : Hid (Row w2 rb (encH Hd.none)) := hR2
      cases hnt : note n (lowF f) with
      | some n' =>
        rw [hnt] at hE
        obtain ⟨rfl, hr2⟩ := hE
        have HS1 : Hid (USt st fs w rb hb (some ⟨g, off, none⟩) (k + 1) n' w2) := by
          refine ⟨hr2, hR2, hB2, fun i hi => ?_, ?_, note_ok HS.out.ok hnt⟩
          · obtain ⟨g', off', e', hg', y0, y1⟩ := (HS.out.at'.below HB1.out) i hi
            injection e' with e'
            injection e' with e1 e2 _
            subst e1
            subst e2
            have hgw : g < w.heap.size := HGw.out g off rfl (List.ne_nil_of_mem Hm.out)
            have hgn : ¬ (g = hb) := by omega
            exact ⟨g, off, rfl, Nat.lt_of_lt_of_le hg' hO.size, by rw [hO.cell (p := ⟨g, _, none⟩) hg' hgn]; exact y0, by rw [hO.cell (p := ⟨g, _, none⟩) hg' hgn]; exact y1⟩
          · rw [HS.out.eq, HDr.out, List.map_cons, notes, hnt]
            rfl
        clear hr2 hR2 hB2 hO hnt HC e0 e1
        go_wp2
        go_roundw
        case rel => exact ⟨k + 1, n', by go_num, by omega, HS1⟩
        case measure => simp [intOf]; omega
      | none =>
        rw [hnt] at hE
        obtain ⟨t, x, rfl⟩ := hE
        have HN : Hid (goodN st limit fs = none) := by
          show _ = _
          unfold goodN
          rw [HS.out.eq, HDr.out, List.map_cons, notes, hnt]
          rfl
        have r0 : w2.cell? ⟨rb, 0, none⟩ = some (.int .i64 0) := hR2.cell 0 _ rfl
        have z0 := hR2.fro 0
        have r1 : w2.cell? ⟨rb, 1, none⟩ = some (.bool false) := hR2.cell 1 _ rfl
        have z1 := hR2.fro 1
        have r2 : w2.cell? ⟨rb, 2, none⟩ = some (.int .i64 0) := hR2.cell 2 _ rfl
        have z2 := hR2.fro 2
        have r3 : w2.cell? ⟨rb, 3, none⟩ = some (.bool false) := hR2.cell 3 _ rfl
        have z3 := hR2.fro 3
        have r4 : w2.cell? ⟨rb, 4, none⟩ = some (.bool false) := hR2.cell 4 _ rfl
        have z4 := hR2.fro 4
        have r5 : w2.cell? ⟨rb, 5, none⟩ = some (.string ⟨#[]⟩) := hR2.cell 5 _ rfl
        have z5 := hR2.fro 5
        have r6 : w2.cell? ⟨rb, 6, none⟩ = some (.bool false) := hR2.cell 6 _ rfl
        have z6 := hR2.fro 6
        have r7 : w2.cell? ⟨rb, 7, none⟩ = some (.int .i64 0) := hR2.cell 7 _ rfl
        have z7 := hR2.fro 7
        have r8 : w2.cell? ⟨rb, 8, none⟩ = some (.int .i64 0) := hR2.cell 8 _ rfl
        have z8 := hR2.fro 8
        have r9 : w2.cell? ⟨rb, 9, none⟩ = some (.int .i64 0) := hR2.cell 9 _ rfl
        have z9 := hR2.fro 9
        clear hR2 hB2 hO hnt HC e0 e1
        go_wp2
        refine bodyPost_ret (v := .tuple #[.agg #[.int .i64 0, .bool false, .int .i64 0, .bool false, .bool false, .string ⟨#[]⟩, .bool false, .int .i64 0, .int .i64 0, .int .i64 0], .iface t x]) (by simp [results, Tryz.results42, go_sem, r0, r1, r2, r3, r4, r5, r6, r7, r8, r9]) rfl ⟨.inr ⟨HN.out, t, x, rfl⟩, ?_⟩
        exact ((((((((((HB2.out.setCell (p := ⟨rb, 0, none⟩) hrl _).setCell (p := ⟨rb, 1, none⟩) hrl _).setCell (p := ⟨rb, 2, none⟩) hrl _).setCell (p := ⟨rb, 3, none⟩) hrl _).setCell (p := ⟨rb, 4, none⟩) hrl _).setCell (p := ⟨rb, 5, none⟩) hrl _).setCell (p := ⟨rb, 6, none⟩) hrl _).setCell (p := ⟨rb, 7, none⟩) hrl _).setCell (p := ⟨rb, 8, none⟩) hrl _).setCell (p := ⟨rb, 9, none⟩) hrl _)
    · have hlt' : ¬ (k : Int) < (len : Int) := by omega
      have hke : k = fs.length := by rw [Hlen.out]; omega
      have hX1 := HX.out.keep (HS.out.bel.mono hB0)
      have HC := check_walk hb limit (hdN st n) ad B wr HS.out.row hX1.er
      have HE : Hid (notes Note.none (fs.map lowF) = some n) := by show _ = _; rw [HS.out.eq, hke, List.drop_length]; rfl
      have HB2 : Hid (Below w.heap.size w wr) := HS.out.bel
      have hR2 : Row wr rb (encH Hd.none) := HS.out.res
      clear hX1 hke
      go_wp2_with fail
      refine HC.mono ?_
      rintro e w2 ⟨hE, rfl⟩
      rw [← fits_hd] at hE
      cases hft : fits st limit n.head with
      | true =>
        rw [hft] at hE
        have hE : e = .returned .nilIface := hE
        subst hE
        have HN : Hid (goodN st limit fs = some n) := by show _ = _; unfold goodN; rw [HE.out]; simp only [Option.bind_some]; rw [if_pos hft]
        have r0 : w2.cell? ⟨rb, 0, none⟩ = some (.int .i64 0) := hR2.cell 0 _ rfl
        have z0 := hR2.fro 0
        have r1 : w2.cell? ⟨rb, 1, none⟩ = some (.bool false) := hR2.cell 1 _ rfl
        have z1 := hR2.fro 1
        have r2 : w2.cell? ⟨rb, 2, none⟩ = some (.int .i64 0) := hR2.cell 2 _ rfl
        have z2 := hR2.fro 2
        have r3 : w2.cell? ⟨rb, 3, none⟩ = some (.bool false) := hR2.cell 3 _ rfl
        have z3 := hR2.fro 3
        have r4 : w2.cell? ⟨rb, 4, none⟩ = some (.bool false) := hR2.cell 4 _ rfl
        have z4 := hR2.fro 4
        have r5 : w2.cell? ⟨rb, 5, none⟩ = some (.string ⟨#[]⟩) := hR2.cell 5 _ rfl
        have z5 := hR2.fro 5
        have r6 : w2.cell? ⟨rb, 6, none⟩ = some (.bool false) := hR2.cell 6 _ rfl
        have z6 := hR2.fro 6
        have r7 : w2.cell? ⟨rb, 7, none⟩ = some (.int .i64 0) := hR2.cell 7 _ rfl
        have z7 := hR2.fro 7
        have r8 : w2.cell? ⟨rb, 8, none⟩ = some (.int .i64 0) := hR2.cell 8 _ rfl
        have z8 := hR2.fro 8
        have r9 : w2.cell? ⟨rb, 9, none⟩ = some (.int .i64 0) := hR2.cell 9 _ rfl
        have z9 := hR2.fro 9
        have y0 : w2.cell? ⟨hb, 0, none⟩ = some (.int .i64 ((hdN st n).status : Int)) := HS.out.row.cell 0 _ rfl
        have y1 : w2.cell? ⟨hb, 1, none⟩ = some (.bool (hdN st n).hasLength) := HS.out.row.cell 1 _ rfl
        have y2 : w2.cell? ⟨hb, 2, none⟩ = some (.int .i64 ((hdN st n).length : Int)) := HS.out.row.cell 2 _ rfl
        have y3 : w2.cell? ⟨hb, 3, none⟩ = some (.bool (hdN st n).chunked) := HS.out.row.cell 3 _ rfl
        have y4 : w2.cell? ⟨hb, 4, none⟩ = some (.bool (hdN st n).hasTag) := HS.out.row.cell 4 _ rfl
        have y5 : w2.cell? ⟨hb, 5, none⟩ = some (.string ⟨(hdN st n).tag.toArray⟩) := HS.out.row.cell 5 _ rfl
        have y6 : w2.cell? ⟨hb, 6, none⟩ = some (.bool (hdN st n).hasRange) := HS.out.row.cell 6 _ rfl
        have y7 : w2.cell? ⟨hb, 7, none⟩ = some (.int .i64 ((hdN st n).first : Int)) := HS.out.row.cell 7 _ rfl
        have y8 : w2.cell? ⟨hb, 8, none⟩ = some (.int .i64 ((hdN st n).last : Int)) := HS.out.row.cell 8 _ rfl
        have y9 : w2.cell? ⟨hb, 9, none⟩ = some (.int .i64 ((hdN st n).total : Int)) := HS.out.row.cell 9 _ rfl
        obtain ⟨⟨a0, a1, a2, a3, a4, a5, a6, a7, a8, a9⟩, hhd⟩ : ∃ q, hdN st n = q := ⟨_, rfl⟩
        have Hhd : Hid (hdN st n = ⟨a0, a1, a2, a3, a4, a5, a6, a7, a8, a9⟩) := hhd
        rw [hhd] at y0 y1 y2 y3 y4 y5 y6 y7 y8 y9
        simp only [] at y0 y1 y2 y3 y4 y5 y6 y7 y8 y9
        clear hhd
        have HOk : Hid (NoteOk n) := HS.out.ok
        clear hR2 hft HC
        go_wp2
        refine bodyPost_ret (v := .tuple #[.agg #[.int .i64 (a0 : Int), .bool a1, .int .i64 (a2 : Int), .bool a3, .bool a4, .string ⟨a5.toArray⟩, .bool a6, .int .i64 (a7 : Int), .int .i64 (a8 : Int), .int .i64 (a9 : Int)], .nilIface]) (by simp [results, Tryz.results42, go_sem, r0, r1, r2, r3, r4, r5, r6, r7, r8, r9]) rfl ⟨.inl ⟨n, HN.out, HOk.out, by rw [Hhd.out]; rfl⟩, ?_⟩
        exact ((((((((((HB2.out.setCell (p := ⟨rb, 0, none⟩) hrl _).setCell (p := ⟨rb, 1, none⟩) hrl _).setCell (p := ⟨rb, 2, none⟩) hrl _).setCell (p := ⟨rb, 3, none⟩) hrl _).setCell (p := ⟨rb, 4, none⟩) hrl _).setCell (p := ⟨rb, 5, none⟩) hrl _).setCell (p := ⟨rb, 6, none⟩) hrl _).setCell (p := ⟨rb, 7, none⟩) hrl _).setCell (p := ⟨rb, 8, none⟩) hrl _).setCell (p := ⟨rb, 9, none⟩) hrl _)
      | false =>
        rw [hft] at hE
        obtain ⟨t, x, rfl⟩ := hE
        have HN : Hid (goodN st limit fs = none) := by show _ = _; unfold goodN; rw [HE.out]; simp only [Option.bind_some]; rw [if_neg (by rw [hft]; decide)]
        have r0 : w2.cell? ⟨rb, 0, none⟩ = some (.int .i64 0) := hR2.cell 0 _ rfl
        have z0 := hR2.fro 0
        have r1 : w2.cell? ⟨rb, 1, none⟩ = some (.bool false) := hR2.cell 1 _ rfl
        have z1 := hR2.fro 1
        have r2 : w2.cell? ⟨rb, 2, none⟩ = some (.int .i64 0) := hR2.cell 2 _ rfl
        have z2 := hR2.fro 2
        have r3 : w2.cell? ⟨rb, 3, none⟩ = some (.bool false) := hR2.cell 3 _ rfl
        have z3 := hR2.fro 3
        have r4 : w2.cell? ⟨rb, 4, none⟩ = some (.bool false) := hR2.cell 4 _ rfl
        have z4 := hR2.fro 4
        have r5 : w2.cell? ⟨rb, 5, none⟩ = some (.string ⟨#[]⟩) := hR2.cell 5 _ rfl
        have z5 := hR2.fro 5
        have r6 : w2.cell? ⟨rb, 6, none⟩ = some (.bool false) := hR2.cell 6 _ rfl
        have z6 := hR2.fro 6
        have r7 : w2.cell? ⟨rb, 7, none⟩ = some (.int .i64 0) := hR2.cell 7 _ rfl
        have z7 := hR2.fro 7
        have r8 : w2.cell? ⟨rb, 8, none⟩ = some (.int .i64 0) := hR2.cell 8 _ rfl
        have z8 := hR2.fro 8
        have r9 : w2.cell? ⟨rb, 9, none⟩ = some (.int .i64 0) := hR2.cell 9 _ rfl
        have z9 := hR2.fro 9
        clear hR2 hft HC
        go_wp2
        refine bodyPost_ret (v := .tuple #[.agg #[.int .i64 0, .bool false, .int .i64 0, .bool false, .bool false, .string ⟨#[]⟩, .bool false, .int .i64 0, .int .i64 0, .int .i64 0], .iface t x]) (by simp [results, Tryz.results42, go_sem, r0, r1, r2, r3, r4, r5, r6, r7, r8, r9]) rfl ⟨.inr ⟨HN.out, t, x, rfl⟩, ?_⟩
        exact ((((((((((HB2.out.setCell (p := ⟨rb, 0, none⟩) hrl _).setCell (p := ⟨rb, 1, none⟩) hrl _).setCell (p := ⟨rb, 2, none⟩) hrl _).setCell (p := ⟨rb, 3, none⟩) hrl _).setCell (p := ⟨rb, 4, none⟩) hrl _).setCell (p := ⟨rb, 5, none⟩) hrl _).setCell (p := ⟨rb, 6, none⟩) hrl _).setCell (p := ⟨rb, 7, none⟩) hrl _).setCell (p := ⟨rb, 8, none⟩) hrl _).setCell (p := ⟨rb, 9, none⟩) hrl _)
end Go.Proofs.YtmodongnganbfaaGreatDoor.Rep
