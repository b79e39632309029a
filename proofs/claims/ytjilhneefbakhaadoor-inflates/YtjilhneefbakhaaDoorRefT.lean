/- The document's deflated text in memory, and its bits. -/
import Derived.Test.YtjilhneefbakhaaDoorCodeJ
namespace Go.Proofs.YtjilhneefbakhaaDoor.Inf
open Go.RowKit Go.Proofs.YtjilhneefbakhaaDoor.Sha

/-- The document's text at block tb: its bits, which comes next, whether more were asked for than there are, what has come, how much may. -/
structure TA (tb base : Nat) (s : ByteArray) (pos : Nat) (out : List UInt8) (most : Nat) (bad : Bool) (w : World) : Prop where
  c0 : w.cell? ⟨tb, 0, none⟩ = some (.string s)
  c1 : w.cell? ⟨tb, 1, none⟩ = some (.int .i64 (pos : Int))
  c2 : w.cell? ⟨tb, 2, none⟩ = some (.bool bad)
  c3 : ∃ v, w.cell? ⟨tb, 3, none⟩ = some v ∧ OwnL u8v w base v out
  c4 : w.cell? ⟨tb, 4, none⟩ = some (.int .i64 (most : Int))
  fro : ∀ j, w.frozen? ⟨tb, j, none⟩ = false
  lt : tb < base
  bl : base ≤ w.heap.size
section
variable {tb base : Nat} {s : ByteArray} {pos : Nat} {out : List UInt8} {most : Nat} {bad : Bool} {w w' : World}
theorem TA.drew (h : TA tb base s pos out most bad w) (n : Nat) : TA tb base s pos out most bad (w.drewN n) := ⟨h.c0, h.c1, h.c2, h.c3, h.c4, h.fro, h.lt, h.bl⟩
theorem TA.setAt (h : TA tb base s pos out most bad w) (z : Int) (p : Nat) (hz : z = (p : Int)) : TA tb base s p out most bad (w.setCell ⟨tb, 1, none⟩ (.int .i64 z)) := by
  obtain ⟨v, hv, ho⟩ := h.c3
  subst hz
  exact ⟨set_ne h.c0 (by decide), World.cell?_setCell_same _ _ _ h.c1, set_ne h.c2 (by decide), ⟨v, set_ne hv (by decide), own_set ho h.lt⟩, set_ne h.c4 (by decide), fun j => by rw [World.frozen?_setCell]; exact h.fro j, h.lt, by simpa using h.bl⟩
theorem TA.setBad (h : TA tb base s pos out most bad w) (bd : Bool) : TA tb base s pos out most bd (w.setCell ⟨tb, 2, none⟩ (.bool bd)) := by
  obtain ⟨v, hv, ho⟩ := h.c3
  exact ⟨set_ne h.c0 (by decide), set_ne h.c1 (by decide), World.cell?_setCell_same _ _ _ h.c2, ⟨v, set_ne hv (by decide), own_set ho h.lt⟩, set_ne h.c4 (by decide), fun j => by rw [World.frozen?_setCell]; exact h.fro j, h.lt, by simpa using h.bl⟩
theorem TA.outlt (h : TA tb base s pos out most bad w) {k : Nat} (ho : outB tb w k) : k < w.heap.size ∧ base ≤ k := by
  obtain ⟨i, n, c, ho⟩ := ho
  obtain ⟨v, c3, hv⟩ := h.c3
  rw [c3] at ho
  injection ho with ho
  subst ho
  rcases hv with ⟨hv, _⟩ | ⟨g, cap, hv, h1, h2, _⟩
  · cases hv
  · cases hv; exact ⟨h2, h1⟩
theorem TA.away (h : TA tb base s pos out most bad w) (hs : w.heap.size ≤ w'.heap.size) (hk : ∀ k, k = tb ∨ outB tb w k → w'.heap[k]? = w.heap[k]?) : TA tb base s pos out most bad w' := by
  have cc : ∀ j, w'.cell? ⟨tb, j, none⟩ = w.cell? ⟨tb, j, none⟩ := fun j => World.cell?_of_block (a := ⟨tb, j, none⟩) (w := w) (hk tb (.inl rfl))
  have ff : ∀ (k : Nat), w'.heap[k]? = w.heap[k]? → ∀ j, w'.frozen? ⟨k, j, none⟩ = w.frozen? ⟨k, j, none⟩ := fun k e j => by unfold World.frozen?; rw [e]
  obtain ⟨v, c3, hv⟩ := h.c3
  refine ⟨(cc 0).trans h.c0, (cc 1).trans h.c1, (cc 2).trans h.c2, ⟨v, (cc 3).trans c3, ?_⟩, (cc 4).trans h.c4, fun j => (ff tb (hk tb (.inl rfl)) j).trans (h.fro j), h.lt, Nat.le_trans h.bl hs⟩
  rcases hv with hv | ⟨g, cap, hv, h1, h2, h3, h4, h5⟩
  · exact .inl hv
  · have hg := hk g (.inr ⟨0, _, cap, by rw [c3, hv]⟩)
    refine .inr ⟨g, cap, hv, h1, Nat.lt_of_lt_of_le h2 hs, h3, fun j u hj => ?_, fun j hj => ?_⟩
    · rw [World.cell?_of_block (a := ⟨g, j, none⟩) (w := w) hg]; exact h4 j u hj
    · rw [World.cell?_of_block (a := ⟨g, j, none⟩) (w := w) hg, ff g hg j]; exact h5 j hj
theorem TA.set (h : TA tb base s pos out most bad w) {k : Nat} (ha : Apart tb w k) (j : Nat) (v : Value) : TA tb base s pos out most bad (w.setCell ⟨k, j, none⟩ v) :=
  h.away (by simp) (fun i hi => Below.heap_setCell w ⟨k, j, none⟩ v i (by rintro rfl; rcases hi with hi | hi; exact ha.2.1 hi; exact ha.2.2 hi))
theorem TA.grow (h : TA tb base s pos out most bad w) (hb : Below w.heap.size w w') : TA tb base s pos out most bad w' :=
  h.away hb.size (fun i hi => by
    rcases hi with rfl | hi
    · exact hb.block i (Nat.lt_of_lt_of_le h.lt h.bl)
    · exact hb.block i (h.outlt hi).1)
theorem TA.fresh (h : TA tb base s pos out most bad w) (hb : Below w.heap.size w w') {k : Nat} (hk : w.heap.size ≤ k) (hk2 : k < w'.heap.size) : Apart tb w' k := by
  refine ⟨hk2, by have := h.lt; have := h.bl; omega, fun ⟨i, n, c, ho⟩ => ?_⟩
  rw [hb.cell (p := ⟨tb, 3, none⟩) (Nat.lt_of_lt_of_le h.lt h.bl)] at ho
  have := (h.outlt ⟨i, n, c, ho⟩).1
  omega
theorem TA.below (h : TA tb base s pos out most bad w) {w' : World} (hb : Below base w w') (v' : Value) (out' : List UInt8) (hv : OwnL u8v w' base v' out') :
    TA tb base s pos out' most bad (w'.setCell ⟨tb, 3, none⟩ v') := by
  obtain ⟨v, h3, _⟩ := h.c3
  have cc : ∀ j, w'.cell? ⟨tb, j, none⟩ = w.cell? ⟨tb, j, none⟩ := fun j => hb.cell (p := ⟨tb, j, none⟩) h.lt
  refine ⟨set_ne ((cc 0).trans h.c0) (by decide), set_ne ((cc 1).trans h.c1) (by decide), set_ne ((cc 2).trans h.c2) (by decide), ⟨v', World.cell?_setCell_same _ _ _ ((cc 3).trans h3), own_set hv h.lt⟩, set_ne ((cc 4).trans h.c4) (by decide), fun j => ?_, h.lt, ?_⟩
  · rw [World.frozen?_setCell, hb.frozen (p := ⟨tb, j, none⟩) h.lt]; exact h.fro j
  · have := hb.size; have := h.bl; simp; omega
/-- What one leaves. -/
def OnePost (tb base : Nat) (s : ByteArray) (pos : Nat) (out : List UInt8) (most : Nat) (bad : Bool) (w : World) (e : Ending) (w' : World) : Prop :=
  ∃ x p bd, e = .returned (.int .i64 ((x : Nat) : Int)) ∧ x < 2 ∧ p ≤ 8 * s.size ∧ TA tb base s p out most bd w' ∧ Kept tb base w w' ∧ Hid ((pos < 8 * s.size → x = bitAt s pos ∧ p = pos + 1 ∧ bd = bad) ∧ (¬ pos < 8 * s.size → bd = true))
set_option maxRecDepth 100000 in
set_option maxHeartbeats 2000000 in
theorem one_walk (h : TA tb base s pos out most bad w) (hs : s.size ≤ 140737488355328) (hp : pos ≤ 8 * s.size) :
    Calls Tryd.prog 16 #[.pointer (some ⟨tb, 0, none⟩)] w fun e w' => OnePost tb base s pos out most bad w e w' := by
  have c0 := h.c0
  have c1 := h.c1
  have c2 := h.c2
  have f1 := h.fro 1
  have f2 := h.fro 2
  have hw8 : IntKind.i64.wrap (8 * (s.size : Int)) = 8 * (s.size : Int) := by rw [show (8 : Int) * (s.size : Int) = ((8 * s.size : Nat) : Int) by omega]; exact wrapNat _ (by omega)
  by_cases hlt : pos < 8 * s.size
  · have hge : ¬ (8 : Int) * (s.size : Int) ≤ (pos : Int) := by omega
    have HH : Hid (TA tb base s pos out most bad w) := h
    obtain ⟨a, HA⟩ : ∃ a, Hid (pos / 8 = a) := ⟨_, rfl⟩
    obtain ⟨b, HB⟩ : ∃ b, Hid (pos % 8 = b) := ⟨_, rfl⟩
    have ha : a < s.size := by have := HA.out; omega
    have hb : b < 8 := by have := HB.out; omega
    have hq : IntKind.i64.wrap ((pos : Int) / 8) = (a : Int) := by rw [show (pos : Int) / 8 = ((pos / 8 : Nat) : Int) by omega, HA.out]; exact wrapNat _ (by omega)
    have hr : (pos : Int).tmod 8 = (b : Int) := by rw [Int.tmod_eq_emod_of_nonneg (by omega)]; have := HB.out; omega
    have hwb : IntKind.i64.wrap (b : Int) = (b : Int) := wrapNat _ (by omega)
    have hai : (a : Int) < (s.size : Int) := by omega
    have hb1 : (b : Int) ≤ 64 := by omega
    have hb0 : ¬ (b : Int) < 0 := by omega
    clear h
    go_enter Tryd.func16, Tryd.ntmps16
    go_wp2_with fail
    go_quiet (fail)
    have h1 := HH.out.drew nq
    have k1 : Kept tb base w (w.drewN nq) := Kept.drew nq
    clear c0 c1 c2 f1 f2
    generalize hw1 : w.drewN nq = w1 at *
    have c0 := h1.c0
    have c1 := h1.c1
    clear hw1
    go_wp2_with fail
    go_quiet (fail)
    obtain ⟨x, HX⟩ : ∃ x, Hid (bitAt s pos = x) := ⟨_, rfl⟩
    have HV : Hid (bits .and .i64 (wrap64 (s[a].toNat : Int) / 2 ^ b) 1 = (x : Int)) := by
      show _ = _
      have ew : wrap64 (s[a].toNat : Int) = (s[a].toNat : Int) := by have := s[a].toNat_lt; unfold wrap64; omega
      rw [ew]
      have e : (s[a].toNat : Int) / 2 ^ b = ((s[a].toNat / 2 ^ b : Nat) : Int) := by simp
      have hl : s[a].toNat / 2 ^ b < 9223372036854775808 := Nat.lt_of_le_of_lt (Nat.div_le_self _ _) (by have := s[a].toNat_lt; omega)
      have eg : s.data.toList.getD a 0 = s[a] := by simp [ByteArray.getElem_eq_getElem_data, ha]
      rw [e, i64_and1 _ hl, ← HX.out, bitAt, HA.out, HB.out, eg]
    rw [HV.out]
    have h2 := h1.drew nq
    have k2 : Kept tb base w (w1.drewN nq) := k1.trans (Kept.drew nq)
    clear c0 c1 k1
    generalize hw2 : w1.drewN nq = w2 at *
    have c1 := h2.c1
    have f1 := h2.fro 1
    have h3 := h2.setAt ((pos : Int) + 1) (pos + 1) (by omega)
    have k3 : Kept tb base w (w2.setCell ⟨tb, 1, none⟩ (.int .i64 ((pos : Int) + 1))) := k2.trans (Kept.set _ _ _ (by decide))
    have hx2 : x < 2 := by rw [← HX.out]; exact bitAt_lt _ _
    clear hw2 h2 k2 h1 HV
    go_wp2
    exact bodyPost_ret (results_tmp rfl _ _ _) rfl ⟨x, pos + 1, bad, rfl, hx2, hlt, h3, k3, fun _ => ⟨HX.out.symm, rfl, rfl⟩, fun hc => absurd hlt hc⟩
  · have hge : (8 : Int) * (s.size : Int) ≤ (pos : Int) := by omega
    have HH : Hid (TA tb base s pos out most bad w) := h
    clear h
    go_enter Tryd.func16, Tryd.ntmps16
    go_wp2_with fail
    go_quiet (fail)
    have h1 := HH.out.drew nq
    have k1 : Kept tb base w (w.drewN nq) := Kept.drew nq
    clear c0 c1 c2 f1 f2
    generalize hw1 : w.drewN nq = w1 at *
    have c2 := h1.c2
    have f2 := h1.fro 2
    have h2 := h1.setBad true
    have k2 : Kept tb base w (w1.setCell ⟨tb, 2, none⟩ (.bool true)) := k1.trans (Kept.set _ _ _ (by decide))
    clear hw1 h1 k1
    go_wp2
    exact bodyPost_ret (results_tmp rfl _ _ _) rfl ⟨0, pos, true, rfl, by decide, hp, h2, k2, fun hc => absurd hc hlt, fun _ => rfl⟩
set_option maxHeartbeats 1000000 in
/-- many, whatever the state. -/
theorem many_any (n : Nat) (h : TA tb base s pos out most bad w) (hs : s.size ≤ 140737488355328) (hp : pos ≤ 8 * s.size) (hn : n ≤ 16) :
    Calls Tryd.prog 13 #[.pointer (some ⟨tb, 0, none⟩), .int .i64 (n : Int)] w fun e w' => ∃ v p bd, e = .returned (.int .i64 ((v : Nat) : Int)) ∧ v < 2 ^ n ∧ p ≤ 8 * s.size ∧ TA tb base s p out most bd w' ∧ Kept tb base w w' ∧ (bd = false → bad = false ∧ pos + n ≤ 8 * s.size ∧ p = pos + n ∧ v = bitsVal s pos n) ∧ (bad = false → pos + n ≤ 8 * s.size → bd = false) := by
  go_enter Tryd.func13, Tryd.ntmps13
  go_wp2
  go_loopw [5, 6, 7, 8] (fun v m i _ wr => ∃ (k y p : Nat) (bd : Bool), k ≤ n ∧ i = .int .i64 k ∧ v = .int .i64 (y : Int) ∧ m = .int .i64 ((2 ^ k : Nat) : Int) ∧ TA tb base s p out most bd wr ∧ Kept tb base w wr ∧ Hid (y < 2 ^ k ∧ p ≤ 8 * s.size ∧ (bd = false → bad = false ∧ pos + k ≤ 8 * s.size ∧ p = pos + k ∧ y = bitsVal s pos k) ∧ (bad = false → pos + k ≤ 8 * s.size → bd = false))) (fun _ _ i _ _ => n - (intOf i).toNat)
  case atStart => exact ⟨0, 0, pos, bad, by omega, rfl, rfl, rfl, h, Kept.refl _ _ _, ⟨by decide, hp, fun hb => ⟨hb, by omega, rfl, rfl⟩, fun hb _ => hb⟩⟩
  case round =>
    clear h
    obtain ⟨k, y, p, bd, hk, rfl, rfl, rfl, hM, hK, HI⟩ := hrel
    by_cases hlt : k < n
    · have hlt' : (k : Int) < (n : Int) := by omega
      have hB16 : 2 ^ k ≤ 65536 := (Nat.pow_le_pow_right (by decide) (by omega) : 2 ^ k ≤ 2 ^ 16)
      obtain ⟨B, HB⟩ : ∃ B : Nat, Hid (2 ^ k = B) := ⟨2 ^ k, rfl⟩
      rw [HB.out]
      rw [HB.out] at hB16
      have hy : y < 65536 := Nat.lt_of_lt_of_le HI.out.1 (by rw [HB.out]; exact hB16)
      go_wp2_with fail
      refine (one_walk hM hs HI.out.2.1).mono ?_
      rintro e w2 ⟨x, p2, bd2, rfl, hx, hp2, hM2, k2, HX⟩
      have hK2 := hK.trans k2
      obtain ⟨P, HP⟩ : ∃ P, Hid (B * x = P) := ⟨_, rfl⟩
      have hP : P ≤ 65536 := by rw [← HP.out]; have := Nat.mul_le_mul_left B (show x ≤ 1 by omega); omega
      have hmul : (B : Int) * (x : Int) = (P : Int) := by rw [← HP.out]; simp
      have HI2 : Hid (y + P < 2 ^ (k + 1) ∧ p2 ≤ 8 * s.size ∧ (bd2 = false → bad = false ∧ pos + (k + 1) ≤ 8 * s.size ∧ p2 = pos + (k + 1) ∧ y + P = bitsVal s pos (k + 1)) ∧ (bad = false → pos + (k + 1) ≤ 8 * s.size → bd2 = false)) := by
        obtain ⟨a1, a2, a3, a4⟩ := HI.out
        have hPB : P ≤ 2 ^ k := by rw [← HP.out, HB.out]; have := Nat.mul_le_mul_left B (show x ≤ 1 by omega); omega
        refine ⟨by rw [Nat.pow_succ]; omega, hp2, fun hb => ?_, fun hb hl => ?_⟩
        · have hpl : p < 8 * s.size := Classical.byContradiction fun hc => by rw [HX.out.2 hc] at hb; cases hb
          obtain ⟨b1, b2, b3⟩ := HX.out.1 hpl
          obtain ⟨d1, d2, d3, d4⟩ := a3 (by rw [← b3]; exact hb)
          subst d3
          exact ⟨d1, by omega, by omega, by rw [bitsVal, ← d4, ← b1, ← HP.out, HB.out, Nat.mul_comm]⟩
        · have hbd := a4 hb (by omega)
          obtain ⟨_, _, d3, _⟩ := a3 hbd
          obtain ⟨_, _, b3⟩ := HX.out.1 (by omega)
          rw [b3]; exact hbd
      have HB2 : Hid (2 * B = 2 ^ (k + 1)) := by show _ = _; rw [Nat.pow_succ, HB.out]; omega
      clear hM hK k2 HX
      go_wp2
      go_roundw
      case rel => exact ⟨k + 1, y + P, p2, bd2, by omega, by go_num, congrArg (Value.int .i64) (by omega), by rw [← HB2.out]; congr 1, hM2, hK2, HI2⟩
      case measure => simp [intOf]; omega
    · have HKn : Hid (k = n) := by show _ = _; omega
      have HF := HI.out
      rw [HKn.out] at HF
      obtain ⟨a1, a2, a3, a4⟩ := HF
      go_wp2
      exact bodyPost_ret (results_tmp rfl _ _ _) rfl ⟨y, p, bd, rfl, a1, a2, hM, hK, a3, a4⟩
end
end Go.Proofs.YtjilhneefbakhaaDoor.Inf
