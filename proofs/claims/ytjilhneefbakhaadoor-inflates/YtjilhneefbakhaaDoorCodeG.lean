/- The lengths that are told. -/
import Derived.Test.YtjilhneefbakhaaDoorCodeF
namespace Go.Proofs.YtjilhneefbakhaaDoor.Inf
open Go.RowKit Go.Proofs.YtjilhneefbakhaaDoor.Sha

def nv (n : Nat) : Value := .int .i64 (n : Int)
theorem nv_one (n : Nat) : (nv n).oneCell' = true := rfl
/-- What a told length does: so often more, and on. -/
def putG (cl : List Nat) (s : ByteArray) (many f : Nat) (acc : List Nat) (x t p : Nat) : Option (List Nat × Nat) := if many - acc.length < t then none else lenG cl s many f (acc ++ List.replicate t x) p
theorem lenG_done {cl : List Nat} {s : ByteArray} {many f : Nat} {acc : List Nat} {p : Nat} (h : acc.length = many) : lenG cl s many f acc p = some (acc, p) := by cases f <;> simp [lenG, h]
theorem lenG_more {cl : List Nat} {s : ByteArray} {many f : Nat} {acc : List Nat} {p : Nat} (h : acc.length ≠ many) : lenG cl s many (f + 1) acc p = (match lenStep cl s acc p with
    | none => none
    | some (x, t, q) => putG cl s many f acc x t q) := by rw [lenG, if_neg h]; rfl
theorem lenStep_none {cl : List Nat} {s : ByteArray} {acc : List Nat} {p : Nat} (h : symP cl s p = none) : lenStep cl s acc p = none := by rw [lenStep, h]
theorem lenStep_16 {cl : List Nat} {s : ByteArray} {acc : List Nat} {p q : Nat} (h : symP cl s p = some (16, q)) : lenStep cl s acc p = if acc = [] then none else (takeP s q 2).map fun r => (acc.getD (acc.length - 1) 0, 3 + r.1, r.2) := by rw [lenStep, h]; rfl
theorem lenStep_17 {cl : List Nat} {s : ByteArray} {acc : List Nat} {p q : Nat} (h : symP cl s p = some (17, q)) : lenStep cl s acc p = (takeP s q 3).map fun r => (0, 3 + r.1, r.2) := by rw [lenStep, h]; rfl
theorem lenStep_18 {cl : List Nat} {s : ByteArray} {acc : List Nat} {p q : Nat} (h : symP cl s p = some (18, q)) : lenStep cl s acc p = (takeP s q 7).map fun r => (0, 11 + r.1, r.2) := by rw [lenStep, h]; rfl
theorem lenStep_x {cl : List Nat} {s : ByteArray} {acc : List Nat} {p q x : Nat} (h : symP cl s p = some (x, q)) (hx : x ≤ 15) : lenStep cl s acc p = some (x, 1, q) := by
  rw [lenStep, h]
  simp only
  rw [if_neg (by omega), if_neg (by omega), if_neg (by omega)]
/-- The told lengths in memory: a slice of one's own, away from the machine. -/
structure LenW (mb base : Nat) (w : World) (v : Value) (l : List Nat) (wr : World) : Prop where
  own : OwnL nv wr w.heap.size v l
  ap : ∀ g n c, v = .slice (some ⟨g, 0, none⟩) n c → Apart mb wr g
  kept : Kept mb base w wr
section
variable {mb base : Nat} {s : ByteArray} {a b : Nat} {out : List UInt8} {most : Nat} {bad : Bool} {w wr w2 : World} {v : Value} {l : List Nat}
theorem LenW.next (h : LenW mb base w v l wr) (k : Kept mb base wr w2) : LenW mb base w v l w2 := by
  refine ⟨?_, fun g n c hv => (k.apart (h.ap g n c hv)).1, h.kept.trans k⟩
  rcases h.own with h1 | ⟨g, cap, q1, q2, q3, q4, q5, q6⟩
  · exact .inl h1
  · have e := (k.apart (h.ap g _ _ q1)).2
    refine .inr ⟨g, cap, q1, q2, Nat.lt_of_lt_of_le q3 k.size, q4, fun j u hj => ?_, fun j hj => ?_⟩
    · rw [World.cell?_of_block (a := ⟨g, j, none⟩) (w := wr) e]; exact q5 j u hj
    · have : w2.frozen? ⟨g, j, none⟩ = wr.frozen? ⟨g, j, none⟩ := by unfold World.frozen?; rw [e]
      rw [World.cell?_of_block (a := ⟨g, j, none⟩) (w := wr) e, this]; exact q6 j hj
theorem LenW.form (h : LenW mb base w v l wr) : ∃ ao cap, v = .slice ao l.length cap := by
  rcases h.own with ⟨h1, h2⟩ | ⟨g, cap, h1, _⟩
  · have : l = [] := List.map_eq_nil_iff.1 h2
    subst this
    exact ⟨none, 0, h1⟩
  · exact ⟨some ⟨g, 0, none⟩, cap, by rw [h1, List.length_map]⟩
/-- The last one. -/
theorem LenW.last (h : LenW mb base w v l wr) (hl : l ≠ []) : ∃ g cap, v = .slice (some ⟨g, 0, none⟩) l.length cap ∧ wr.cell? ⟨g, l.length - 1, none⟩ = some (nv (l.getD (l.length - 1) 0)) ∧ Apart mb wr g := by
  rcases h.own with ⟨_, h2⟩ | ⟨g, cap, h1, _, _, _, h5, _⟩
  · exact absurd (List.map_eq_nil_iff.1 h2) hl
  · have hp : 0 < l.length := by cases l with | nil => exact absurd rfl hl | cons => simp
    refine ⟨g, cap, by rw [h1, List.length_map], h5 _ _ ?_, h.ap g _ _ h1⟩
    rw [List.getElem?_map, List.getElem?_eq_getElem (by omega), List.getD_eq_getElem?_getD, List.getElem?_eq_getElem (by omega)]; rfl
/-- One more. -/
theorem LenW.more (h : LenW mb base w v l wr) (hM : MA mb base s a b out most bad wr) (hbl : base ≤ w.heap.size) {o : Obj} {g' T cap' : Nat} {x : Nat} (ho : OwnL nv w2 w.heap.size (.slice (some ⟨g', 0, none⟩) T cap') (l ++ [x])) (hb : Below w.heap.size (wr.alloc o) w2) (ha : Apt (wr.alloc o) w2 v (.slice (some ⟨g', 0, none⟩) T cap')) :
    LenW mb base w (.slice (some ⟨g', 0, none⟩) T cap') (l ++ [x]) w2 ∧ MA mb base s a b out most bad w2 := by
  have ha := apt_alloc ha
  have hsz : wr.heap.size ≤ w2.heap.size := Nat.le_trans (by simp) hb.size
  have hws := h.kept.size
  have hB : Below w.heap.size wr w2 := ((below_one wr o).mono hws).trans hb
  have hlb := hM.lt
  have hc : w2.cell? ⟨mb, 3, none⟩ = wr.cell? ⟨mb, 3, none⟩ := hB.cell (p := ⟨mb, 3, none⟩) (show mb < w.heap.size by omega)
  refine ⟨⟨ho, fun g n c hv => ?_, h.kept.below hB hlb hbl⟩, hM.away hsz fun k hk => ?_⟩
  · cases hv
    rcases Nat.lt_or_ge g' wr.heap.size with h1 | h1
    · obtain ⟨n2, c2, hv2⟩ := ha.2 g' _ _ rfl h1
      exact (h.ap g' n2 c2 hv2).same hsz hc
    · refine ⟨?_, ?_, fun ⟨i, n, c, h2⟩ => ?_⟩
      · rcases ho with ⟨q, _⟩ | ⟨g, cap, q1, _, q3, _⟩
        · cases q
        · cases q1; exact q3
      · have := hM.bl; omega
      · rw [hc] at h2
        have := (hM.outlt ⟨i, n, c, h2⟩).1
        omega
  · have hkl : k < wr.heap.size := by
      rcases hk with rfl | hk
      · have := hM.bl; omega
      · exact (hM.outlt hk).1
    refine ha.1 k hkl fun n c hv => ?_
    have hap := h.ap k n c hv
    rcases hk with hk | hk
    · exact hap.2.1 hk
    · exact hap.2.2 hk
end
theorem mem_app_le {l : List Nat} {n t y : Nat} (h : ∀ x ∈ l, x ≤ n) (hy : y ≤ n) : ∀ x ∈ l ++ List.replicate t y, x ≤ n := fun x hx => by
  rcases List.mem_append.1 hx with h1 | h1
  · exact h x h1
  · rw [List.eq_of_mem_replicate h1]; exact hy
theorem rep_more (l : List Nat) (k x : Nat) : (l ++ List.replicate k x) ++ [x] = l ++ List.replicate (k + 1) x := by rw [List.append_assoc, List.replicate_succ']
section
variable {mb base cb o : Nat} {s : ByteArray} {pos : Nat} {out : List UInt8} {most : Nat} {bad : Bool} {cl : List Nat} {w : World}
/-- What lengths leaves. -/
def LenPost (mb base : Nat) (s : ByteArray) (out : List UInt8) (most : Nat) (bad : Bool) (R : Option (List Nat × Nat)) (v : Value) (w w' : World) : Prop :=
  ∃ (l : List Nat) (p : Nat) (bd : Bool), LenW mb base w v l w' ∧ p ≤ 8 * s.size ∧ MW mb base s p out most bd w' ∧ (∀ x ∈ l, x ≤ 15) ∧ (bd = false → bad = false ∧ R = some (l, p)) ∧ (bad = false → R ≠ none → bd = false)
set_option maxRecDepth 100000 in
set_option maxHeartbeats 4000000 in
theorem lengths_walk (many : Nat) (h : MW mb base s pos out most bad w) (hs : s.size ≤ 140737488355328) (hp : pos ≤ 8 * s.size) (hD : DefW w) (hg : 33 ≤ mb) (hC : CodeK mb w cb o cl) (hcl : cl.length = 19) (hmany : many ≤ 1000) :
    Calls Tryd.prog 50 #[.pointer (some ⟨mb, 0, none⟩), .pointer (some ⟨cb, o, none⟩), .int .i64 (many : Int)] w fun e w' => ∃ v, e = .returned v ∧ LenPost mb base s out most bad (lenG cl s many many [] pos) v w w' := by
  have hlb : mb < base := MA.lt h
  have hbl : base ≤ w.heap.size := MA.bl h
  obtain ⟨R, HR⟩ : ∃ R, Hid (lenG cl s many many [] pos = R) := ⟨_, rfl⟩
  rw [HR.out]
  obtain ⟨i0, hi, hz0, hz1, hz2⟩ := info_parts intInfo
  have hmk : (Instr.makeSlice 29 (.int .i64 0) (.int .i64 (many : Int))).run Tryd.prog w = .ok (.slice (some ⟨w.heap.size, 0, none⟩) 0 many) (w.alloc (.cells (madeCells #[.int .i64 0] many) 3)) := by
    have := run_make (P := Tryd.prog) w 29 3 i0 (.int .i64 0) Tryd.underlying29 hi hz0 .i64 .i64 0 many (by omega) (by omega) (by rw [hz2]; omega) (by omega)
    rw [this, hz1]; simp [Value.cells]
  have hB0 := below_one w (.cells (madeCells #[.int .i64 0] many) 3)
  have hM0 : MW mb base s pos out most bad (w.alloc (.cells (madeCells #[.int .i64 0] many) 3)) := MA.grow h hB0
  have hL0 : LenW mb base w (.slice (some ⟨w.heap.size, 0, none⟩) 0 many) [] (w.alloc (.cells (madeCells #[.int .i64 0] many) 3)) := by
    refine ⟨.inr ⟨w.heap.size, many, rfl, Nat.le_refl _, by simp, Nat.zero_le _, fun j u hj => by simp at hj, fun j hj => ?_⟩, fun g n c hv => ?_, (Kept.refl _ _ _).below hB0 hlb hbl⟩
    · rw [World.cell?_alloc_at _ _ _ _ rfl]
      refine ⟨?_, by simp⟩
      show ((madeCells #[.int .i64 0] many)[j]?).isSome = true
      rw [made_get many j hj]; rfl
    · cases hv; exact Apart.fresh h hB0 (Nat.le_refl _) (by simp)
  clear hB0
  generalize hw0 : w.alloc (.cells (madeCells #[.int .i64 0] many) 3) = w0 at *
  clear hw0
  go_enter Tryd.func50, Tryd.ntmps50
  go_wp2
  refine scope_fall (fun n l a' w' => ∃ (acc : List Nat) (p : Nat) (bd : Bool) (v : Value) (zx zt : Int), (∃ f : Nat → Value, a' = { tmps := #[.pointer (some ⟨mb, 0, none⟩), .pointer (some ⟨cb, o, none⟩), .int .i64 (many : Int), undef, undef, f 5, f 6, f 7, .int .i64 zx, .int .i64 zt, v, f 11, f 12, f 13, f 14, f 15, f 16, f 17, f 18, f 19, f 20, f 21, f 22, f 23, f 24, f 25, f 26, f 27, f 28, f 29, f 30, f 31, f 32, f 33, f 34, f 35, f 36, f 37, f 38, f 39, f 40, f 41, f 42, f 43, f 44, f 45, f 46, f 47, f 48, f 49, f 50, f 51, f 52, f 53, f 54, f 55, f 56, f 57, f 58, f 59, f 60, f 61, f 62, f 63, f 64, f 65, f 66, f 67, f 68, f 69, f 70, f 71, f 72, f 73, f 74, f 75], defers := [] }) ∧ MW mb base s p out most bd w' ∧ LenW mb base w v acc w' ∧ p ≤ 8 * s.size ∧ acc.length ≤ many ∧ (∀ x ∈ acc, x ≤ 15) ∧ Hid ((bd = true → bad = true ∨ R = none) ∧ ((l = 0 ∧ n = 3 * (many - acc.length) + 3 ∧ (bd = false → bad = false ∧ ∃ f, many ≤ f + acc.length ∧ lenG cl s many f acc p = R)) ∨ (l = 1 ∧ acc.length < many ∧ n = 3 * (many - acc.length) + 2 ∧ (bd = false → bad = false ∧ ∃ f, many ≤ f + 1 + acc.length ∧ (acc = [] → R = none) ∧ (acc ≠ [] → (takeP s p 2 = none → R = none) ∧ ∀ y q, takeP s p 2 = some (y, q) → putG cl s many f acc (acc.getD (acc.length - 1) 0) (3 + y) q = R))) ∨ (l = 2 ∧ acc.length < many ∧ n = 3 * (many - acc.length) + 1 ∧ ∃ x t : Nat, zx = (x : Int) ∧ zt = (t : Int) ∧ x ≤ 15 ∧ 1 ≤ t ∧ t ≤ 138 ∧ (bd = false → bad = false ∧ ∃ f, many ≤ f + 1 + acc.length ∧ putG cl s many f acc x t p = R))))) ?_ ?_
  · rintro n ih l a' wr ⟨acc, p, bd, v, zx, zt, ⟨f, rfl⟩, hM, hL, hp, hal, ha15, HI⟩
    clear hM0 hL0 hmk h
    have hDr := hD.kept hL.kept hg hlb
    have hCr := hC.kept hL.kept
    have HBad : Hid (bd = true → bad = true ∨ R = none) := HI.out.1
    rcases HI.out.2 with ⟨rfl, rfl, hI⟩ | ⟨rfl, hlt, rfl, hI⟩ | ⟨rfl, hlt, rfl, x, t, rfl, rfl, hx15, ht1, ht2, hI⟩
    · clear HI ih
      have HI : Hid (bd = false → bad = false ∧ ∃ f, many ≤ f + acc.length ∧ lenG cl s many f acc p = R) := hI
      clear hI
      refine ⟨_, rfl, ?_⟩
      obtain ⟨ev, c5, he⟩ := MA.c5 hM
      obtain ⟨ao, cap, hv⟩ := hL.form
      subst hv
      obtain ⟨L, HL⟩ : ∃ L, Hid (acc.length = L) := ⟨_, rfl⟩
      have hLe := HL.out
      rw [HL.out]
      rw [HL.out] at hL
      have HM : Hid (MW mb base s p out most bd wr) := hM
      cases bd with
      | true =>
        obtain ⟨y, rfl⟩ := he
        clear hM
        go_wp2
        simp only [jumps]
        exact bodyPost_ret (results_tmp rfl _ _ _) rfl ⟨.slice ao L cap, rfl, acc, p, true, hL, hp, HM.out, ha15, (by intro hc; cases hc), fun hb hn => (by rcases HBad.out (by first | rfl | trivial) with h1 | h1; (rw [hb] at h1; cases h1); exact absurd h1 hn)⟩
      | false =>
        cases he
        by_cases heq : L = many
        · have heq' : ((L : Int) == (many : Int)) = true := by simp; omega
          have HF : Hid (bad = false ∧ R = some (acc, p)) := by
            obtain ⟨i1, f1, _, i2⟩ := HI.out rfl
            exact ⟨i1, by rw [← i2, lenG_done (by omega)]⟩
          clear hM heq
          go_wp2
          simp only [jumps]
          exact bodyPost_ret (results_tmp rfl _ _ _) rfl ⟨.slice ao L cap, rfl, acc, p, false, hL, hp, HM.out, ha15, fun _ => HF.out, fun _ _ => (by first | rfl | trivial)⟩
        · have heq' : ((L : Int) == (many : Int)) = false := by rw [beq_eq_false_iff_ne]; omega
          have hlt : acc.length < many := by omega
          have HQ : Hid (bad = false ∧ ∃ f1, many ≤ f1 + 1 + acc.length ∧ (match lenStep cl s acc p with
              | none => none
              | some (x, t, q) => putG cl s many f1 acc x t q) = R) := by
            obtain ⟨i1, f1, i2, i3⟩ := HI.out rfl
            obtain ⟨f2, rfl⟩ : ∃ f2, f1 = f2 + 1 := ⟨f1 - 1, by omega⟩
            exact ⟨i1, f2, by omega, by rw [← lenG_more (by omega)]; exact i3⟩
          clear heq
          go_wp2_with fail
          refine (symbol_walk hM hs hp hDr hg hCr (by omega)).mono ?_
          rintro e w2 ⟨x, p2, bd2, rfl, hx, hp2, hM2, k2, HS⟩
          have hx19 : x < 19 := by omega
          have hL2 := hL.next k2
          have hD2 := hD.kept hL2.kept hg hlb
          have HM2 : Hid (MW mb base s p2 out most bd2 w2) := hM2
          have HB2 : Hid (bd2 = true → bad = true ∨ R = none) := fun hb => by
            rcases Classical.em (symP cl s p = none) with h1 | h1
            · obtain ⟨f1, _, hf2⟩ := HQ.out.2
              rw [lenStep_none h1] at hf2
              exact .inr hf2.symm
            · rw [HS.out.2 rfl h1] at hb; cases hb
          clear hM hL k2 hM2 HM hDr hCr hx c5
          by_cases h16 : x = 16
          · have e16 : ((x : Int) == 16) = true := by simp; omega
            have HP3 : Hid (bd2 = false → bad = false ∧ ∃ f, many ≤ f + 1 + acc.length ∧ (acc = [] → R = none) ∧ (acc ≠ [] → (takeP s p2 2 = none → R = none) ∧ ∀ y q, takeP s p2 2 = some (y, q) → putG cl s many f acc (acc.getD (acc.length - 1) 0) (3 + y) q = R)) := fun hb => by
              obtain ⟨f1, hf1, hf2⟩ := HQ.out.2
              obtain ⟨_, hsy⟩ := HS.out.1 hb
              subst h16
              rw [lenStep_16 hsy] at hf2
              refine ⟨HQ.out.1, f1, hf1, fun ha => ?_, fun ha => ⟨fun ht => ?_, fun y q ht => ?_⟩⟩
              · rw [if_pos ha] at hf2; exact hf2.symm
              · rw [if_neg ha, ht] at hf2; exact hf2.symm
              · rw [if_neg ha, ht] at hf2; exact hf2
            go_wp2
            go_step3
            try simp only [Exit.jump]
            exact ⟨_, (by omega : 3 * (many - acc.length) + 2 < 3 * (many - L) + 3), acc, p2, bd2, _, _, _, mkF rfl, HM2.out, hL2, hp2, hal, ha15, ⟨HB2.out, .inr (.inl ⟨rfl, hlt, rfl, HP3.out⟩)⟩⟩
          · have e16 : ((x : Int) == 16) = false := by rw [beq_eq_false_iff_ne]; omega
            by_cases h17 : x = 17
            · have e17 : ((x : Int) == 17) = true := by simp; omega
              go_wp2_with fail
              refine (take_any 3 HM2.out hs hp2 (by decide) hD2 hg).mono ?_
              rintro e w3 ⟨y, p3, bd3, rfl, hy, hp3, hM3, k3, f3, g3⟩
              have hy' : y < 8 := hy
              have HM3 : Hid (MW mb base s p3 out most bd3 w3) := hM3
              have hL3 := hL2.next k3
              have HP3 : Hid ((bd3 = true → bad = true ∨ R = none) ∧ (bd3 = false → bad = false ∧ ∃ f, many ≤ f + 1 + acc.length ∧ putG cl s many f acc 0 (3 + y) p3 = R)) := by
                refine ⟨fun hb => ?_, fun hb => ?_⟩
                · rcases Classical.em (bd2 = true) with h2 | h2
                  · exact HB2.out h2
                  · have h2 : bd2 = false := by simpa using h2
                    obtain ⟨f1, hf1, hf2⟩ := HQ.out.2
                    obtain ⟨_, hsy⟩ := HS.out.1 h2
                    subst h17
                    by_cases hq : p2 + 3 ≤ 8 * s.size
                    · rw [g3 h2 hq] at hb; cases hb
                    · rw [lenStep_17 hsy, takeP_no hq] at hf2
                      exact .inr hf2.symm
                · obtain ⟨i1, i2, i3, i4⟩ := f3 hb
                  obtain ⟨f1, hf1, hf2⟩ := HQ.out.2
                  obtain ⟨_, hsy⟩ := HS.out.1 i1
                  subst h17
                  rw [lenStep_17 hsy, takeP_yes i2] at hf2
                  refine ⟨HQ.out.1, f1, hf1, ?_⟩
                  rw [i4, i3]; exact hf2
              clear hM3 k3 f3 g3 hL2 HM2 hD2
              go_wp2
              go_step3
              try simp only [Exit.jump]
              exact ⟨_, (by omega : 3 * (many - acc.length) + 1 < 3 * (many - L) + 3), acc, p3, bd3, _, _, _, mkF rfl, HM3.out, hL3, hp3, hal, ha15, ⟨HP3.out.1, .inr (.inr ⟨rfl, hlt, rfl, 0, 3 + y, rfl, (by omega), by omega, by omega, by omega, HP3.out.2⟩)⟩⟩
            · have e17 : ((x : Int) == 17) = false := by rw [beq_eq_false_iff_ne]; omega
              by_cases h18 : x = 18
              · have e18 : ((x : Int) == 18) = true := by simp; omega
                go_wp2_with fail
                refine (take_any 7 HM2.out hs hp2 (by decide) hD2 hg).mono ?_
                rintro e w3 ⟨y, p3, bd3, rfl, hy, hp3, hM3, k3, f3, g3⟩
                have hy' : y < 128 := hy
                have HM3 : Hid (MW mb base s p3 out most bd3 w3) := hM3
                have hL3 := hL2.next k3
                have HP3 : Hid ((bd3 = true → bad = true ∨ R = none) ∧ (bd3 = false → bad = false ∧ ∃ f, many ≤ f + 1 + acc.length ∧ putG cl s many f acc 0 (11 + y) p3 = R)) := by
                  refine ⟨fun hb => ?_, fun hb => ?_⟩
                  · rcases Classical.em (bd2 = true) with h2 | h2
                    · exact HB2.out h2
                    · have h2 : bd2 = false := by simpa using h2
                      obtain ⟨f1, hf1, hf2⟩ := HQ.out.2
                      obtain ⟨_, hsy⟩ := HS.out.1 h2
                      subst h18
                      by_cases hq : p2 + 7 ≤ 8 * s.size
                      · rw [g3 h2 hq] at hb; cases hb
                      · rw [lenStep_18 hsy, takeP_no hq] at hf2
                        exact .inr hf2.symm
                  · obtain ⟨i1, i2, i3, i4⟩ := f3 hb
                    obtain ⟨f1, hf1, hf2⟩ := HQ.out.2
                    obtain ⟨_, hsy⟩ := HS.out.1 i1
                    subst h18
                    rw [lenStep_18 hsy, takeP_yes i2] at hf2
                    refine ⟨HQ.out.1, f1, hf1, ?_⟩
                    rw [i4, i3]; exact hf2
                clear hM3 k3 f3 g3 hL2 HM2 hD2
                go_wp2
                go_step3
                try simp only [Exit.jump]
                exact ⟨_, (by omega : 3 * (many - acc.length) + 1 < 3 * (many - L) + 3), acc, p3, bd3, _, _, _, mkF rfl, HM3.out, hL3, hp3, hal, ha15, ⟨HP3.out.1, .inr (.inr ⟨rfl, hlt, rfl, 0, 11 + y, rfl, (by omega), by omega, by omega, by omega, HP3.out.2⟩)⟩⟩
              · have e18 : ((x : Int) == 18) = false := by rw [beq_eq_false_iff_ne]; omega
                have hx15 : x ≤ 15 := by omega
                have HP3 : Hid (bd2 = false → bad = false ∧ ∃ f, many ≤ f + 1 + acc.length ∧ putG cl s many f acc x 1 p2 = R) := fun hb => by
                  obtain ⟨f1, hf1, hf2⟩ := HQ.out.2
                  obtain ⟨_, hsy⟩ := HS.out.1 hb
                  rw [lenStep_x hsy hx15] at hf2
                  exact ⟨HQ.out.1, f1, hf1, hf2⟩
                go_wp2
                go_step3
                try simp only [Exit.jump]
                exact ⟨_, (by omega : 3 * (many - acc.length) + 1 < 3 * (many - L) + 3), acc, p2, bd2, _, _, _, mkF rfl, HM2.out, hL2, hp2, hal, ha15, ⟨HB2.out, .inr (.inr ⟨rfl, hlt, rfl, x, 1, rfl, rfl, hx15, by omega, by omega, HP3.out⟩)⟩⟩
    · clear HI
      have HI : Hid (bd = false → bad = false ∧ ∃ f, many ≤ f + 1 + acc.length ∧ (acc = [] → R = none) ∧ (acc ≠ [] → (takeP s p 2 = none → R = none) ∧ ∀ y q, takeP s p 2 = some (y, q) → putG cl s many f acc (acc.getD (acc.length - 1) 0) (3 + y) q = R)) := hI
      clear hI
      refine ⟨_, rfl, ?_⟩
      obtain ⟨L, HL⟩ : ∃ L, Hid (acc.length = L) := ⟨_, rfl⟩
      have hLe := HL.out
      by_cases h0 : acc = []
      · obtain ⟨ao, cap, hv⟩ := hL.form
        subst hv
        rw [HL.out]
        rw [HL.out] at hL
        have hL0 : L = 0 := by rw [← hLe, h0]; rfl
        have heq : ((L : Int) == 0) = true := by simp; omega
        clear hL0
        obtain ⟨xe, hxe⟩ := hDr.rep
        clear ih
        go_wp2_with fail
        refine (fail_walk xe hM).mono ?_
        rintro e w2 ⟨rfl, hM2, k2⟩
        have HM2 : Hid (MW mb base s p out most true w2) := hM2
        have hL2 := hL.next k2
        have HN : Hid (bad = false → R = none) := fun hb => by
          cases bd with
          | true => rcases HBad.out (by first | rfl | trivial) with h1 | h1; (rw [hb] at h1; cases h1); exact h1
          | false =>
            obtain ⟨_, f1, _, i2, _⟩ := HI.out rfl
            exact i2 h0
        clear hM hM2 hL k2 hxe
        go_wp2
        simp only [jumps]
        exact bodyPost_ret (results_tmp rfl _ _ _) rfl ⟨.slice ao L cap, rfl, acc, p, true, hL2, hp, HM2.out, ha15, (by intro hc; cases hc), fun hb hn => absurd (HN.out hb) hn⟩
      · obtain ⟨g, cap, hv, hcl1, hap⟩ := hL.last h0
        subst hv
        obtain ⟨y, HY⟩ : ∃ y, Hid (acc.getD (acc.length - 1) 0 = y) := ⟨_, rfl⟩
        have hy15 : y ≤ 15 := by
          rw [← HY.out, List.getD_eq_getElem?_getD]
          have hpos : 0 < acc.length := by cases acc with | nil => exact absurd rfl h0 | cons => simp
          rw [List.getElem?_eq_getElem (by omega)]
          exact ha15 _ (List.getElem_mem _)
        rw [HY.out] at hcl1
        have hpos : 1 ≤ L := by rw [← hLe]; cases acc with | nil => exact absurd rfl h0 | cons => simp
        rw [HL.out]
        rw [HL.out] at hL hcl1
        have heq : ((L : Int) == 0) = false := by rw [beq_eq_false_iff_ne]; omega
        obtain ⟨D, HDD⟩ : ∃ D, Hid (L - 1 = D) := ⟨_, rfl⟩
        rw [HDD.out] at hcl1
        have hLD : (L : Int) - 1 = (D : Int) := by have := HDD.out; omega
        have hwr : IntKind.i64.wrap ((L : Int) - 1) = (L : Int) - 1 := by rw [hLD]; exact wrapNat _ (by have := HDD.out; omega)
        have hi1 : (0 : Int) ≤ (L : Int) - 1 := by omega
        have hi2 : (L : Int) - 1 < (L : Int) := by omega
        have hi3 : ((L : Int) - 1).toNat = D := by omega
        have hi4 : (1 : Int) ≤ (L : Int) := by omega
        clear hLD
        have hMd : MA mb base s (p / 8) (p % 8) out most bd wr.drew := MA.drew hM 1
        have hLd : LenW mb base w (.slice (some ⟨g, 0, none⟩) L cap) acc wr.drew := hL.next (Kept.drew 1)
        have hDd : DefW wr.drew := hD.kept hLd.kept hg hlb
        have hapd : Apart mb wr.drew g := hap
        have hc1 : wr.cell? ⟨g, D, none⟩ = some (.int .i64 (y : Int)) := hcl1
        clear hM hL hap hcl1 hDr hCr
        go_wp2_with fail
        go_region_held3 (fun w' => w'.cell? ⟨g, D, none⟩ = some (.int .i64 (y : Int)))
          (first | go_keep | (rw [World.cell?_of_block (a := ⟨g, D, none⟩) (w := wr.drew) (k3.apart hapd).2]; assumption))
          ((refine (take_any 2 hMd hs hp (by decide) hDd hg).mono ?_; rintro e w3 ⟨z, p3, bd3, rfl, hz, hp3, hM3, k3, f3, g3⟩; have hL3 := hLd.next k3))
        have hz4 : z < 4 := hz
        have HP3 : Hid ((bd3 = true → bad = true ∨ R = none) ∧ (bd3 = false → bad = false ∧ ∃ f, many ≤ f + 1 + acc.length ∧ putG cl s many f acc y (3 + z) p3 = R)) := by
          refine ⟨fun hb => ?_, fun hb => ?_⟩
          · rcases Classical.em (bd = true) with h2 | h2
            · exact HBad.out h2
            · have h2 : bd = false := by simpa using h2
              obtain ⟨_, f1, hf1, _, hf2⟩ := HI.out h2
              by_cases hq : p + 2 ≤ 8 * s.size
              · rw [g3 h2 hq] at hb; cases hb
              · exact .inr ((hf2 h0).1 (takeP_no hq))
          · obtain ⟨i1, i2, i3, i4⟩ := f3 hb
            obtain ⟨j1, f1, hf1, _, hf2⟩ := HI.out i1
            have := (hf2 h0).2 _ _ (takeP_yes i2)
            rw [HY.out] at this
            exact ⟨j1, f1, hf1, by rw [i4, i3]; exact this⟩
        have HM3 : Hid (MW mb base s p3 out most bd3 w3) := hM3
        rename_i hKK _
        refine hKK _ _ ?_
        refine fall (ih (3 * (many - acc.length) + 1) 2 _ _ (by omega) ⟨acc, p3, bd3, _, _, _, mkF rfl, HM3.out, hL3, hp3, hal, ha15, ⟨HP3.out.1, .inr (.inr ⟨rfl, hlt, rfl, y, 3 + z, rfl, (by rw [show (3 + (z : Int)) = ((3 + z : Nat) : Int) by omega]; exact wrapNat _ (by omega)), hy15, by omega, by omega, HP3.out.2⟩)⟩⟩) rfl ?_
        intro k l' a' w' hk hJ
        exact ⟨k, by omega, hJ⟩
    · clear HI ih
      have HI : Hid (bd = false → bad = false ∧ ∃ f, many ≤ f + 1 + acc.length ∧ putG cl s many f acc x t p = R) := hI
      clear hI
      refine ⟨_, rfl, ?_⟩
      obtain ⟨ao, cap, hv⟩ := hL.form
      subst hv
      obtain ⟨L, HL⟩ : ∃ L, Hid (acc.length = L) := ⟨_, rfl⟩
      have hLe := HL.out
      rw [HL.out]
      rw [HL.out] at hL
      by_cases hgt : many - L < t
      · have hgt' : (many : Int) - (L : Int) < (t : Int) := by omega
        obtain ⟨xe, hxe⟩ := hDr.rep
        go_wp2_with fail
        refine (fail_walk xe hM).mono ?_
        rintro e w2 ⟨rfl, hM2, k2⟩
        have HM2 : Hid (MW mb base s p out most true w2) := hM2
        have hL2 := hL.next k2
        have HN : Hid (bad = false → R = none) := fun hb => by
          cases bd with
          | true => rcases HBad.out (by first | rfl | trivial) with h1 | h1; (rw [hb] at h1; cases h1); exact h1
          | false =>
            obtain ⟨_, f1, _, i2⟩ := HI.out rfl
            rw [putG, if_pos (by omega)] at i2; exact i2.symm
        clear hM hM2 hL k2 hxe
        go_wp2
        simp only [jumps]
        exact bodyPost_ret (results_tmp rfl _ _ _) rfl ⟨.slice ao L cap, rfl, acc, p, true, hL2, hp, HM2.out, ha15, (by intro hc; cases hc), fun hb hn => absurd (HN.out hb) hn⟩
      · have hgt' : ¬ (many : Int) - (L : Int) < (t : Int) := by omega
        have HN : Hid (bd = false → bad = false ∧ ∃ f, many ≤ f + (acc ++ List.replicate t x).length ∧ lenG cl s many f (acc ++ List.replicate t x) p = R) := fun hb => by
          obtain ⟨i1, f1, i2, i3⟩ := HI.out hb
          rw [putG, if_neg (by omega)] at i3
          exact ⟨i1, f1, by simp; omega, i3⟩
        clear hDr hCr
        go_wp2
        go_loopw [10, 69] (fun v i wr => ∃ k : Nat, k ≤ t ∧ i = .int .i64 k ∧ MW mb base s p out most bd wr ∧ LenW mb base w v (acc ++ List.replicate k x) wr) (fun _ i _ => t - (intOf i).toNat)
        case atStart => exact ⟨0, by omega, rfl, hM, by simpa using hL⟩
        case round =>
          clear hM hL
          obtain ⟨k, hk, rfl, hM, hL⟩ := hrel
          by_cases hlt2 : k < t
          · have hlt' : (k : Int) < (t : Int) := by omega
            obtain ⟨ao2, cap2, hv2⟩ := hL.form
            subst hv2
            obtain ⟨A, HA⟩ : ∃ A, Hid (acc ++ List.replicate k x = A) := ⟨_, rfl⟩
            obtain ⟨T, HT⟩ : ∃ T, Hid (A.length = T) := ⟨_, rfl⟩
            have hTe : T ≤ 2000 := by rw [← HT.out, ← HA.out]; simp; omega
            rw [HA.out] at hL
            rw [HA.out]
            rw [HT.out] at hL ⊢
            have hws := hL.kept.size
            have ho := hL.own
            go_wp2_with (at_builtin; refine wpList_append_one2 nv nv_one rfl _ _ 29 rfl w.heap.size 3 i0 (.int .i64 0) 8 Tryd.underlying29 hi hz0 hz1 hz2 rfl _ A T HT.out x rfl (ho.step (below_one _ _)) wr.heap.size rfl (by rw [World.cell?_alloc_at _ _ _ _ rfl]; rfl) (by omega) (by decide) (by simp; omega) ?_)
            intro g' cap' w2 ho2 hb2 hapt
            obtain ⟨hL2, hM2⟩ := hL.more hM hbl ho2 hb2 hapt
            rw [← HA.out, rep_more] at hL2
            have HM2 : Hid (MW mb base s p out most bd w2) := hM2
            clear hM hL ho ho2 hb2 hapt hM2
            go_wp2
            go_roundw
            case rel => exact ⟨k + 1, by omega, by go_num, HM2.out, hL2⟩
            case measure => simp [intOf]; omega
          · have hlt' : ¬ (k : Int) < (t : Int) := by omega
            have hkt : k = t := by omega
            subst hkt
            have HM : Hid (MW mb base s p out most bd wr) := hM
            clear hM
            go_wp2
            go_step3
            try simp only [Exit.jump]
            exact ⟨_, (by simp; omega : 3 * (many - (acc ++ List.replicate k x).length) + 3 < 3 * (many - L) + 1), acc ++ List.replicate k x, p, bd, _, _, _, mkF rfl, HM.out, hL, hp, by simp; omega, mem_app_le ha15 hx15, ⟨HBad.out, .inl ⟨rfl, rfl, HN.out⟩⟩⟩
  · intro all
    go_wp2_with fail
    go_step3
    rename_i hKK
    exact hKK _ _ (fall2 (all (3 * many + 3) 0 _ _ ⟨[], pos, bad, _, _, _, mkF rfl, hM0, hL0, hp, Nat.zero_le _, (fun x hx => by cases hx), ⟨fun hb => .inl hb, .inl ⟨rfl, rfl, fun hb => ⟨hb, many, by simp, HR.out⟩⟩⟩⟩) rfl fun k l' a' w' _ hJ => ⟨k, hJ⟩)
end
end Go.Proofs.YtjilhneefbakhaaDoor.Inf
