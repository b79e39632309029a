/- The machine goes through the blocks of a text whose blocks are not packed. -/
import Derived.Test.YtjilhneefbakhaaDoorInfEnd
import Derived.Test.YtjilhneefbakhaaDoorScopes
namespace Go.Proofs.YtjilhneefbakhaaDoor.Inf
open Go.RowKit Go.Proofs.YtjilhneefbakhaaDoor.Sha

mutual
/-- From a place on a text has at most so many blocks, none of them packed, and gives R: where they end, and what has come; none: one of them is none. -/
def Run (s : ByteArray) (most : Nat) : Nat → Nat → List UInt8 → Option (Nat × List UInt8) → Prop
  | 0, _, _, _ => False
  | b + 1, pos, o, R => pos + 3 ≤ 8 * s.size ∧ bitsVal s (pos + 1) 2 = 0 ∧ After s most b (bitsVal s pos 1) (storedP s most (pos + 3) o) R
def After (s : ByteArray) (most : Nat) : Nat → Nat → Option (Nat × List UInt8) → Option (Nat × List UInt8) → Prop
  | _, _, none, R => R = none
  | b, last, some (p, o), R => (last = 1 ∧ R = some (p, o)) ∨ (last = 0 ∧ Run s most b p o R)
end
section
variable {mb base : Nat} {s : ByteArray} {p : Nat} {o : List UInt8} {most : Nat} {w : World}
theorem MA.step {a b : Nat} {bad : Bool} (h : MA mb base s a b o most bad w) {w' : World} (hb : Below w.heap.size w w') : MA mb base s a b o most bad w' := by
  obtain ⟨v, h3, ho⟩ := h.c3
  obtain ⟨ev, h5, he⟩ := h.c5
  have hl : mb < w.heap.size := Nat.lt_of_lt_of_le h.lt h.bl
  have cc : ∀ j, w'.cell? ⟨mb, j, none⟩ = w.cell? ⟨mb, j, none⟩ := fun j => hb.cell (p := ⟨mb, j, none⟩) hl
  refine ⟨(cc 0).trans h.c0, (cc 1).trans h.c1, (cc 2).trans h.c2, ⟨v, (cc 3).trans h3, ho.step hb⟩, (cc 4).trans h.c4, ⟨ev, (cc 5).trans h5, he⟩, fun j => ?_, h.lt, Nat.le_trans h.bl hb.size⟩
  rw [hb.frozen (p := ⟨mb, j, none⟩) hl]; exact h.fro j
theorem on_two {P G : World → Prop} (hP : ∀ x y, P ((w.alloc x).alloc y)) {x y : Obj} (h : ∀ W, P W → G W) : G ((w.alloc x).alloc y) := h _ (hP x y)
set_option maxRecDepth 100000 in
set_option maxHeartbeats 4000000 in
theorem run_walk (b : Nat) (R : Option (Nat × List UInt8)) (h : MW mb base s p o most false w) (hs : s.size ≤ 140737488355328) (hp : p ≤ 8 * s.size) (hm : o.length ≤ most) (hm2 : most ≤ 8000) (hD : DefW w) (hg : 33 ≤ mb) (HRun : Hid (Run s most (b + 1) p o R)) :
    Calls Tryd.prog 20 #[.pointer (some ⟨mb, 0, none⟩)] w fun e w' => e = .returned (.tuple #[]) ∧ ∃ a b o bd, MA mb base s a b o most bd w' ∧ Kept mb base w w' ∧ Hid ((R = none → bd = true) ∧ ∀ p o', R = some (p, o') → o = o' ∧ (bd = false ↔ endP s p)) := by
  have hlb : mb < base := MA.lt h
  have hbl : base ≤ w.heap.size := MA.bl h
  have hstep : ∀ x y, (fun W => MW mb base s p o most false W ∧ Kept mb base w W) ((w.alloc x).alloc y) := fun x y => by
    have hb : Below w.heap.size w ((w.alloc x).alloc y) := (below_one w x).alloc (by simp) y
    exact ⟨MA.step h hb, Kept.of_below hb hbl hlb⟩
  clear h
  go_enter Tryd.func20, Tryd.ntmps20
  go_wp2
  refine scope_ghost (fun n l a' w' => ∃ (b last fb ob p : Nat) (o : List UInt8) (bd : Bool), (∃ (u5 u6 u7 u8 u9 u10 u11 u12 u13 u14 u15 u16 u17 u18 u19 u20 u21 u22 u23 u24 u25 u26 u27 u28 u29 u30 u31 u32 u33 u34 u35 u36 u37 u38 u39 : Value), a' = { tmps := #[.pointer (some ⟨mb, 0, none⟩), undef, .int .i64 (last : Int), .pointer (some ⟨fb, 0, none⟩), .pointer (some ⟨ob, 0, none⟩), u5, u6, u7, u8, u9, u10, u11, u12, u13, u14, u15, u16, u17, u18, u19, u20, u21, u22, u23, u24, u25, u26, u27, u28, u29, u30, u31, u32, u33, u34, u35, u36, u37, u38, u39], defers := [] }) ∧ MW mb base s p o most bd w' ∧ Kept mb base w w' ∧ p ≤ 8 * s.size ∧ o.length ≤ most ∧ Hid ((l = 0 ∧ n = 3 * b ∧ bd = false ∧ Run s most b p o R) ∨ (l = 1 ∧ n = 3 * b + 2 ∧ bd = false ∧ After s most b last (storedP s most p o) R) ∨ (l = 4 ∧ n = 3 * b + 1 ∧ ((bd = true ∧ R = none) ∨ (bd = false ∧ After s most b last (some (p, o)) R))))) ?_ ?_
  · go_wp2_with fail
    refine on_two (P := fun W => MW mb base s p o most false W ∧ Kept mb base w W) hstep ?_
    rintro wr ⟨hM, hK⟩
    clear hstep
    go_step3
    have hDr := hD.kept hK hg hlb
    have HR2 : Hid (p + 3 ≤ 8 * s.size ∧ bitsVal s (p + 1) 2 = 0 ∧ After s most b (bitsVal s p 1) (storedP s most (p + 3) o) R) := by
      have := HRun.out; simp only [Run] at this; exact this
    have hp3 := HR2.out.1
    clear HRun
    go_wp2_with fail
    refine (take_any 1 hM hs (by omega) (by decide) hDr hg).mono ?_
    rintro e w1 ⟨v1, p1, bd1, rfl, l1, q1, hM1, k1, f1, g1⟩
    have hb1 : bd1 = false := g1 rfl (by omega)
    obtain ⟨_, _, e1, e2⟩ := f1 hb1
    subst hb1; subst e1
    have HE2 : Hid (v1 = bitsVal s p 1) := e2
    have K1 := hK.trans k1
    have hD1 := hD.kept K1 hg hlb
    clear hM hK k1 f1 g1 hDr e2
    go_wp2_with fail
    refine (take_any 2 hM1 hs (by omega) (by decide) hD1 hg).mono ?_
    rintro e w2 ⟨v2, p2, bd2, rfl, l2, q2, hM2, k2, f2, g2⟩
    have hb2 : bd2 = false := g2 rfl (by omega)
    obtain ⟨_, _, e3, e4⟩ := f2 hb2
    subst hb2; subst e3
    have K2 := K1.trans k2
    have hv2 : v2 = 0 := by rw [e4]; exact HR2.out.2.1
    have hv2' : ((v2 : Int) == 0) = true := by simp; omega
    have HA : Hid (After s most b v1 (storedP s most (p + 3) o) R) := by rw [HE2.out]; exact HR2.out.2.2
    have HM3 : Hid (MW mb base s (p + 3) o most false w2) := hM2
    clear hM1 K1 k2 f2 g2 hD1 hM2 e4 HE2 HR2
    go_wp2
    go_step3
    try simp only [Exit.jump]
    exact ⟨_, b, v1, _, _, p + 3, o, false, ⟨_, _, _, _, _, _, _, _, _, _, _, _, _, _, _, _, _, _, _, _, _, _, _, _, _, _, _, _, _, _, _, _, _, _, _, rfl⟩, HM3.out, K2, hp3, hm, .inr (.inl ⟨rfl, rfl, rfl, HA.out⟩)⟩
  · rintro n l a' wr ⟨b, last, fb, ob, p, o, bd, ⟨u5, u6, u7, u8, u9, u10, u11, u12, u13, u14, u15, u16, u17, u18, u19, u20, u21, u22, u23, u24, u25, u26, u27, u28, u29, u30, u31, u32, u33, u34, u35, u36, u37, u38, u39, rfl⟩, hM, hK, hp, hm, HI⟩
    clear hstep HRun
    rcases HI.out with ⟨rfl, rfl, rfl, hR⟩ | ⟨rfl, rfl, rfl, hA⟩ | ⟨rfl, rfl, hB⟩
    · cases b with
      | zero => simp only [Run] at hR
      | succ b =>
        have HRun : Hid (Run s most (b + 1) p o R) := hR
        clear hR HI
        refine ⟨_, rfl, ?_⟩
        have hDr := hD.kept hK hg hlb
        have HR2 : Hid (p + 3 ≤ 8 * s.size ∧ bitsVal s (p + 1) 2 = 0 ∧ After s most b (bitsVal s p 1) (storedP s most (p + 3) o) R) := by
          have := HRun.out; simp only [Run] at this; exact this
        have hp3 := HR2.out.1
        clear HRun
        go_wp2_with fail
        refine (take_any 1 hM hs (by omega) (by decide) hDr hg).mono ?_
        rintro e w1 ⟨v1, p1, bd1, rfl, l1, q1, hM1, k1, f1, g1⟩
        have hb1 : bd1 = false := g1 rfl (by omega)
        obtain ⟨_, _, e1, e2⟩ := f1 hb1
        subst hb1; subst e1
        have HE2 : Hid (v1 = bitsVal s p 1) := e2
        have K1 := hK.trans k1
        have hD1 := hD.kept K1 hg hlb
        clear hM hK k1 f1 g1 hDr e2
        go_wp2_with fail
        refine (take_any 2 hM1 hs (by omega) (by decide) hD1 hg).mono ?_
        rintro e w2 ⟨v2, p2, bd2, rfl, l2, q2, hM2, k2, f2, g2⟩
        have hb2 : bd2 = false := g2 rfl (by omega)
        obtain ⟨_, _, e3, e4⟩ := f2 hb2
        subst hb2; subst e3
        have K2 := K1.trans k2
        have hv2 : v2 = 0 := by rw [e4]; exact HR2.out.2.1
        have hv2' : ((v2 : Int) == 0) = true := by simp; omega
        have HA : Hid (After s most b v1 (storedP s most (p + 3) o) R) := by rw [HE2.out]; exact HR2.out.2.2
        have HM3 : Hid (MW mb base s (p + 3) o most false w2) := hM2
        clear hM1 K1 k2 f2 g2 hD1 hM2 e4 HE2 HR2
        go_wp2
        go_step3
        try simp only [Exit.jump]
        exact ⟨_, (by omega : 3 * b + 2 < 3 * (b + 1)), b, v1, _, _, p + 3, o, false, ⟨_, _, _, _, _, _, _, _, _, _, _, _, _, _, _, _, _, _, _, _, _, _, _, _, _, _, _, _, _, _, _, _, _, _, _, rfl⟩, HM3.out, K2, hp3, hm, .inr (.inl ⟨rfl, rfl, rfl, HA.out⟩)⟩
    · have HA : Hid (After s most b last (storedP s most p o) R) := hA
      clear hA HI
      refine ⟨_, rfl, ?_⟩
      have hDr := hD.kept hK hg hlb
      go_wp2_with fail
      refine (stored_walk hM hs hp hm hm2 hDr hg).mono ?_
      rintro e w1 ⟨rfl, p1, o1, bd1, q1, m1, hM1, k1, f1, g1⟩
      have K1 := hK.trans k1
      have HI4 : Hid ((bd1 = true ∧ R = none) ∨ (bd1 = false ∧ After s most b last (some (p1, o1)) R)) := by
        have hA := HA.out
        cases bd1 with
        | true => rw [g1 rfl rfl] at hA; simp only [After] at hA; exact .inl ⟨rfl, hA⟩
        | false => rw [(f1 rfl).2] at hA; exact .inr ⟨rfl, hA⟩
      have HM1 : Hid (MW mb base s p1 o1 most bd1 w1) := hM1
      clear hM hK k1 f1 g1 hM1 hDr
      go_wp2
      go_step3
      try simp only [Exit.jump]
      exact ⟨_, (by omega : 3 * b + 1 < 3 * b + 2), b, last, _, _, p1, o1, bd1, ⟨_, _, _, _, _, _, _, _, _, _, _, _, _, _, _, _, _, _, _, _, _, _, _, _, _, _, _, _, _, _, _, _, _, _, _, rfl⟩, HM1.out, K1, q1, m1, .inr (.inr ⟨rfl, rfl, HI4.out⟩)⟩
    · have HB : Hid ((bd = true ∧ R = none) ∨ (bd = false ∧ After s most b last (some (p, o)) R)) := hB
      clear hB HI
      refine ⟨_, rfl, ?_⟩
      have hDr := hD.kept hK hg hlb
      have hMA : MA mb base s (p / 8) (p % 8) o most bd wr := hM
      obtain ⟨ev, c5, he⟩ := hMA.c5
      cases bd with
      | true =>
        obtain ⟨x, rfl⟩ := he
        have HR : Hid (R = none) := by
          rcases HB.out with ⟨_, h⟩ | ⟨h, _⟩
          · exact h
          · cases h
        have HM : Hid (MA mb base s (p / 8) (p % 8) o most true wr) := hM
        clear hM hMA
        go_wp2
        simp only [jumps]
        exact bodyPost_ret (results_none rfl _ _ _) rfl ⟨rfl, p / 8, p % 8, o, true, HM.out, hK, ⟨fun _ => rfl, fun p' o' h => by rw [HR.out] at h; cases h⟩⟩
      | false =>
        cases he
        have HR : Hid ((last = 1 ∧ R = some (p, o)) ∨ (last = 0 ∧ Run s most b p o R)) := by
          rcases HB.out with ⟨h, _⟩ | ⟨_, h⟩
          · cases h
          · simp only [After] at h; exact h
        by_cases hl0 : last = 0
        · have hl0' : ((last : Int) == 0) = true := by simp; omega
          have HM : Hid (MW mb base s p o most false wr) := hM
          have HR0 : Hid (Run s most b p o R) := by
            rcases HR.out with ⟨h, _⟩ | ⟨_, h⟩
            · omega
            · exact h
          clear hM hMA
          go_wp2
          go_step3
          try simp only [Exit.jump]
          exact ⟨_, (by omega : 3 * b < 3 * b + 1), b, 0, _, _, p, o, false, ⟨_, _, _, _, _, _, _, _, _, _, _, _, _, _, _, _, _, _, _, _, _, _, _, _, _, _, _, _, _, _, _, _, _, _, _, rfl⟩, HM.out, hK, hp, hm, .inl ⟨rfl, rfl, rfl, HR0.out⟩⟩
        · have hl0' : ((last : Int) == 0) = false := by simp; omega
          have HR0 : Hid (R = some (p, o)) := by
            rcases HR.out with ⟨_, h⟩ | ⟨h, _⟩
            · exact h
            · exact absurd h hl0
          clear hMA
          go_wp2_with fail
          refine (end_walk hM hs hp hDr hg).mono ?_
          rintro e w1 ⟨rfl, a1, b1, bd1, HM1, k1, HE⟩
          have K1 := hK.trans k1
          have HM1 : Hid (MA mb base s a1 b1 o most bd1 w1) := HM1
          have HE : Hid (bd1 = false ↔ endP s p) := HE
          clear hM hK k1
          go_wp2
          simp only [jumps]
          exact bodyPost_end (results_none rfl _ _ _) rfl ⟨rfl, a1, b1, o, bd1, HM1.out, K1, ⟨fun h => (by rw [HR0.out] at h; cases h), fun p' o' h => (by rw [HR0.out] at h; cases h; exact ⟨rfl, HE.out⟩)⟩⟩
end
end Go.Proofs.YtjilhneefbakhaaDoor.Inf
