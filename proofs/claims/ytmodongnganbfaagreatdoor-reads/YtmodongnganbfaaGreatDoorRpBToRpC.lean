/- Replies: the wire's next and take. -/
import Derived.Test.YtmodongnganbfaaGreatDoorRpA
namespace Go.Proofs.YtmodongnganbfaaGreatDoor.Rep
open Go.RowKit Go.Proofs.YtmodongnganbfaaGreatDoor Go.Proofs.YtmodongnganbfaaGreatDoor.Sha
/-- The next event: bytes, or why none come (with the error's number). -/
def nextW (W : Wire) : Option (Why × Nat) × Wire :=
  if W.refused then (some (.again, 0), W)
  else match W.events with
    | [] => (some (.again, 1), W)
    | e :: es =>
      if W.deadline - W.ticks < max e.ticks 0 then (some (.again, 2), { W with events := es, ticks := W.deadline })
      else if e.what = 1 then (none, { W with events := es, ticks := W.ticks + max e.ticks 0, rest := e.data })
      else if e.what = 3 then (some (.closed, 3), { W with events := es, ticks := W.ticks + max e.ticks 0 })
      else (some (.again, 1), { W with events := es, ticks := W.ticks + max e.ticks 0 })
theorem take_next {W : Wire} (hr : W.rest = []) : take W = match nextW W with | (none, W') => take W' | (some (y, _), W') => (.error y, W') := by
  obtain ⟨rf, ev, rs, D, t⟩ := W
  simp only [] at hr
  subst hr
  unfold nextW
  cases rf with
  | true =>
    cases ev with
    | nil => simp [take, pull]
    | cons e es => simp [take, pull]
  | false =>
    cases ev with
    | nil => simp [take, pull]
    | cons e es =>
      simp only [take, pull, Bool.false_eq_true, if_false]
      by_cases h1 : D - t < max e.ticks 0
      · simp only [h1, if_true]
      · simp only [h1, if_false]
        by_cases h2 : e.what = 1
        · simp only [h2, if_true]
          cases hd : e.data with
          | nil => rfl
          | cons c r => rfl
        · simp only [h2, if_false]
          by_cases h3 : e.what = 3
          · simp only [h3, if_true]
          · simp only [h3, if_false]
theorem next_len {W W' : Wire} (h : nextW W = (none, W')) : W'.events.length < W.events.length := by
  unfold nextW at h
  split at h
  · simp at h
  · split at h
    · simp at h
    · rename_i e es he
      split at h
      · simp at h
      · split at h
        · simp only [Prod.mk.injEq, true_and] at h
          rw [← h, he]; simp
        · split at h <;> simp at h
theorem PM.rest {pm limit : Nat} {p : Ps} {err : Value} {w : World} (h : PM pm limit p err w) (r : Bytes) (hr : r.length ≤ 140737488355328) : PM pm limit { p with wire := { p.wire with rest := r } } err (w.setCell ⟨pm, 2, none⟩ (.string ⟨r.toArray⟩)) := by
  have hl := h.lt
  obtain ⟨ao, n, cap, bv, hR, hn, hc, hc2, hE, hg, hO, hbn⟩ := h.ex
  exact PM.mk' (p := p) (w := w) (hR.set 2 (.string ⟨r.toArray⟩) (by simp [encP])) (Only.set (S := (· = pm)) w 2 _ rfl) hl hn hc hc2 hE hg hO rfl hbn ⟨h.ok.t0, h.ok.tD, h.ok.D, h.ok.ev, hr⟩
theorem row_new' (w : World) (arr : Array Value) (t : TypeId) (b : Nat) (hb : w.heap.size = b) : Row (w.alloc (.cells arr t)) b arr.toList := by
  subst hb
  refine ⟨fun i v hi => ?_, fun i => by simp⟩
  rw [World.cell?_alloc_at _ _ _ _ rfl]
  simpa using hi
/-- What next tells and leaves. -/
def NextE (ad : Nat → Addr) (pm limit : Nat) (p : Ps) (err : Value) (e : Ending) (w' : World) : Prop := match nextW p.wire with
  | (none, W') => e = .returned .nilIface ∧ PM pm limit { p with wire := W' } err w'
  | (some (_, i), W') => e = .returned (errV ad i) ∧ PM pm limit { p with wire := W' } err w'
theorem NextE.ok {ad : Nat → Addr} {pm limit : Nat} {p : Ps} {err : Value} {w' : World} {W : Wire} (hn : nextW p.wire = (none, W)) (h : PM pm limit { p with wire := W } err w') : NextE ad pm limit p err (.returned .nilIface) w' := by
  unfold NextE; rw [hn]; exact ⟨rfl, h⟩
theorem NextE.no {ad : Nat → Addr} {pm limit : Nat} {p : Ps} {err : Value} {w' : World} {W : Wire} {y : Why} {i : Nat} (hn : nextW p.wire = (some (y, i), W)) (h : PM pm limit { p with wire := W } err w') : NextE ad pm limit p err (.returned (errV ad i)) w' := by
  unfold NextE; rw [hn]; exact ⟨rfl, h⟩
set_option maxHeartbeats 2000000 in
set_option maxRecDepth 100000 in
theorem next_walk (pm limit : Nat) (p : Ps) (err : Value) (ad : Nat → Addr) (B : Nat) (w : World) (h : PM pm limit p err w) (hW : RepW ad B w) (hB : B ≤ pm) :
    Calls Tryz.prog 62 #[.pointer (some ⟨pm, 0, none⟩)] w fun e w' => NextE ad pm limit p err e w' ∧ Only (· = pm) w w' := by
  obtain ⟨ao, n, cap, bv, hR, hn, hc, hc2, hE, hg, hO, hbn⟩ := h.ex
  have hlt := h.lt
  have hng : 22 ≤ pm := Nat.le_trans hW.ng hB
  have c0 : w.cell? ⟨pm, 0, none⟩ = some (.bool p.wire.refused) := hR.cell 0 _ rfl
  have c1 : w.cell? ⟨pm, 1, none⟩ = some (.slice ao n cap) := hR.cell 1 _ rfl
  have f1 := hR.fro 1
  cases hrf : p.wire.refused with
  | true =>
    have HN : Hid (nextW p.wire = (some (.again, 0), p.wire)) := by show _ = _; unfold nextW; rw [if_pos hrf]
    have e0 := hW.refused
    rw [hrf] at c0
    have HP : Hid (PM pm limit p err w) := h
    clear hR hE hO h hW hrf
    go_enter Tryz.func62, Tryz.ntmps62
    go_wp2
    go_ret
    exact ⟨NextE.no HN.out HP.out, Only.refl _ _⟩
  | false =>
    rw [hrf] at c0
    cases hev : p.wire.events with
    | nil =>
      have HN : Hid (nextW p.wire = (some (.again, 1), p.wire)) := by show _ = _; unfold nextW; rw [if_neg (by rw [hrf]; decide), hev]
      have e0 := hW.reset
      have en : n = 0 := by rw [← hn, hev]; rfl
      subst en
      have HP : Hid (PM pm limit p err w) := h
      clear hR hE hO h hW hrf hev hn
      go_enter Tryz.func62, Tryz.ntmps62
      go_wp2
      go_ret
      exact ⟨NextE.no HN.out HP.out, Only.refl _ _⟩
    | cons e es =>
      obtain ⟨g, off, eao, hgl, x0, x1, x2⟩ := hE 0 (by rw [hev]; simp)
      obtain ⟨et, ew, ed⟩ := e
      simp only [hev, List.getElem_cons_zero, Nat.zero_mul, Nat.add_zero] at x0 x1 x2
      obtain ⟨b1, b2, b3⟩ := h.ok.ev ⟨et, ew, ed⟩ (by rw [hev]; simp)
      subst eao
      have hn1 : n = es.length + 1 := by rw [← hn, hev]; rfl
      have hgp := hg g off rfl (by rw [hev]; simp)
      obtain ⟨T, hT⟩ : ∃ T, es.length = T := ⟨_, rfl⟩
      rw [hT] at hn1
      subst hn1
      have HT : Hid (es.length = T) := hT
      have nz : (((T : Int) + 1) == 0) = false := by rw [beq_eq_false_iff_ne]; omega
      have nzc : (((T + 1 : Nat) : Int) == 0) = false := by rw [beq_eq_false_iff_ne]; omega
      have hok1 : WireOk { p.wire with events := es } := ⟨h.ok.t0, h.ok.tD, h.ok.D, fun e he => h.ok.ev e (by rw [hev]; exact List.mem_cons_of_mem _ he), h.ok.rest⟩
      have hE1 : EvAt w (some ⟨g, off + 3, none⟩) es := by
        intro i hi
        obtain ⟨g', off', e', hl', y0, y1, y2⟩ := hE (i + 1) (by rw [hev]; simp; omega)
        injection e' with e'
        injection e' with e1 e2
        subst e1; subst e2
        simp only [hev, List.getElem_cons_succ] at y0 y1 y2
        refine ⟨g, off + 3, rfl, hl', ?_, ?_, ?_⟩
        · rw [show off + 3 + i * 3 = off + (i + 1) * 3 by omega]; exact y0
        · rw [show off + 3 + i * 3 + 1 = off + (i + 1) * 3 + 1 by omega]; exact y1
        · rw [show off + 3 + i * 3 + 2 = off + (i + 1) * 3 + 2 by omega]; exact y2
      by_cases hcap : cap = 1
      · subst hcap
        have hT0 : T = 0 := by omega
        subst hT0
        have hEv0 : EvAt w (some ⟨g, off, none⟩) es := fun i hi => by omega
        obtain ⟨w1, HW1⟩ : ∃ w1, Hid ((w.setCell ⟨pm, 1, none⟩ (.slice (some ⟨g, off, none⟩) 0 0)).alloc (.cells #[.int .i64 et, .int .i64 ew, .string ⟨ed.toArray⟩] 32) = w1) := ⟨_, rfl⟩
        have hO1 : Only (· = pm) w w1 := by rw [← HW1.out]; exact (Only.set (S := (· = pm)) w 1 _ rfl).trans (Only.alloc _ _ _)
        have hR1 : Row w1 pm (encP limit (.slice (some ⟨g, off, none⟩) 0 0) bv err { p with wire := { p.wire with events := es } }) := by rw [← HW1.out]; exact ((hR.set 1 (.slice (some ⟨g, off, none⟩) 0 0) (by simp [encP])).alloc (by simp [encP]) _)
        have hP1 : PM pm limit { p with wire := { p.wire with events := es } } err w1 := PM.mk' (p := p) (w := w) hR1 hO1 hlt hT (by omega) (by omega) hEv0 (fun g' off' e _ => hg g' off' e (by rw [hev]; simp)) hO rfl hbn hok1
        have hW1 : RepW ad B w1 := hW.keep (only_keeps hO1 hB hlt)
        have hEr : Row w1 w.heap.size [.int .i64 et, .int .i64 ew, .string ⟨ed.toArray⟩] := by rw [← HW1.out]; exact row_new' _ #[.int .i64 et, .int .i64 ew, .string ⟨ed.toArray⟩] _ w.heap.size (by simp)
        have HEr : Hid (Row w1 w.heap.size [.int .i64 et, .int .i64 ew, .string ⟨ed.toArray⟩]) := hEr
        have HO1 : Hid (Only (· = pm) w w1) := hO1
        have HW : Hid (RepW ad B w1) := hW1
        have Hev : Hid (p.wire.events = ⟨et, ew, ed⟩ :: es) := hev
        have Hrf : Hid (p.wire.refused = false) := hrf
        have HB1 : Hid (ed.length ≤ 140737488355328) := b1
        by_cases hl : p.wire.deadline - p.wire.ticks < max et 0
        · have HN : Hid (nextW p.wire = (some (.again, 2), { p.wire with events := es, ticks := p.wire.deadline })) := by show _ = _; unfold nextW; rw [if_neg (by rw [hrf]; decide), hev]; simp only []; rw [if_pos hl]
          have HC := wait_late pm limit _ err ad B et w1 hP1 hW1 hB hl
          clear hR hE hO h hW hrf hev hn hT hR1 hP1 hW1 hEr hO1 hE1 hok1 hl
          go_enter Tryz.func62, Tryz.ntmps62
          go_wp2_with fail
          rw [HW1.out]
          refine HC.mono ?_
          rintro e w2 ⟨rfl, hP2, hO2⟩
          have HF : Hid (NextE ad pm limit p err (.returned (errV ad 2)) w2) := NextE.no HN.out hP2
          have HK : Hid (Only (· = pm) w w2) := HO1.out.trans hO2
          clear hP2 hO2 HC
          simp only [errV]
          go_wp2
          go_ret
          exact ⟨HF.out, HK.out⟩
        · have HC := wait_ok pm limit _ err et w1 hP1 hl
          have HNx : Hid (nextW p.wire = if ew = 1 then (none, { p.wire with events := es, ticks := p.wire.ticks + max et 0, rest := ed }) else if ew = 3 then (some (.closed, 3), { p.wire with events := es, ticks := p.wire.ticks + max et 0 }) else (some (.again, 1), { p.wire with events := es, ticks := p.wire.ticks + max et 0 })) := by show _ = _; unfold nextW; rw [if_neg (by rw [hrf]; decide), hev]; simp only []; rw [if_neg hl]
          clear hR hE hO h hW hrf hev hn hT hR1 hP1 hW1 hEr hO1 hE1 hok1 hl
          go_enter Tryz.func62, Tryz.ntmps62
          go_wp2_with fail
          rw [HW1.out]
          refine HC.mono ?_
          rintro e w2 ⟨rfl, hP2, hO2⟩
          have hEr2 : Row w2 w.heap.size [.int .i64 et, .int .i64 ew, .string ⟨ed.toArray⟩] := HEr.out.only (by simp) hO2 (fun e => by have e : w.heap.size = pm := e; omega)
          have y1 : w2.cell? ⟨w.heap.size, 1, none⟩ = some (.int .i64 ew) := hEr2.cell 1 _ rfl
          have y2 : w2.cell? ⟨w.heap.size, 2, none⟩ = some (.string ⟨ed.toArray⟩) := hEr2.cell 2 _ rfl
          have hl1 : pm < w1.heap.size := Nat.lt_of_lt_of_le hlt HO1.out.size
          have hW2 : RepW ad B w2 := HW.out.keep (only_keeps hO2 hB hl1)
          have HK : Hid (Only (· = pm) w w2) := HO1.out.trans hO2
          have HP2 : Hid (PM pm limit { p with wire := { p.wire with events := es, ticks := p.wire.ticks + max et 0 } } err w2) := hP2
          have gc := hW2.closed
          have gr := hW2.reset
          have c2 : w2.cell? ⟨pm, 2, none⟩ = some (.string ⟨p.wire.rest.toArray⟩) := by obtain ⟨_, _, _, _, q, _⟩ := hP2.ex; exact q.cell 2 _ rfl
          have f2 : w2.frozen? ⟨pm, 2, none⟩ = false := by obtain ⟨_, _, _, _, q, _⟩ := hP2.ex; exact q.fro 2
          have HFr : Hid (PM pm limit { p with wire := { p.wire with events := es, ticks := p.wire.ticks + max et 0, rest := ed } } err (w2.setCell ⟨pm, 2, none⟩ (.string ⟨ed.toArray⟩))) := hP2.rest ed HB1.out
          have HKr : Hid (Only (· = pm) w (w2.setCell ⟨pm, 2, none⟩ (.string ⟨ed.toArray⟩))) := HK.out.trans (Only.set (S := (· = pm)) _ 2 _ rfl)
          clear hP2 hO2 HC hEr2 hW2
          by_cases w1e : ew = 1
          · have b1e : (ew == 1) = true := by rw [w1e]; rfl
            have HF : Hid (NextE ad pm limit p err (.returned .nilIface) (w2.setCell ⟨pm, 2, none⟩ (.string ⟨ed.toArray⟩))) := NextE.ok (by rw [HNx.out, if_pos w1e]) HFr.out
            clear w1e
            go_wp2
            go_ret
            exact ⟨HF.out, HKr.out⟩
          · have b1e : (ew == 1) = false := by rw [beq_eq_false_iff_ne]; exact w1e
            by_cases w3e : ew = 3
            · have b3e : (ew == 3) = true := by rw [w3e]; rfl
              have HF : Hid (NextE ad pm limit p err (.returned (errV ad 3)) w2) := NextE.no (by rw [HNx.out, if_neg w1e, if_pos w3e]) HP2.out
              clear w1e w3e
              go_wp2
              go_ret
              exact ⟨HF.out, HK.out⟩
            · have b3e : (ew == 3) = false := by rw [beq_eq_false_iff_ne]; exact w3e
              have HF : Hid (NextE ad pm limit p err (.returned (errV ad 1)) w2) := NextE.no (by rw [HNx.out, if_neg w1e, if_neg w3e]) HP2.out
              clear w1e w3e
              go_wp2
              go_ret
              exact ⟨HF.out, HK.out⟩
      · have hcap' : 1 < cap := by omega
        have hcap1 : ¬ cap = 1 := hcap
        obtain ⟨w1, HW1⟩ : ∃ w1, Hid ((w.setCell ⟨pm, 1, none⟩ (.slice (some ⟨g, off + 3, none⟩) T (cap - 1))).alloc (.cells #[.int .i64 et, .int .i64 ew, .string ⟨ed.toArray⟩] 32) = w1) := ⟨_, rfl⟩
        have hO1 : Only (· = pm) w w1 := by rw [← HW1.out]; exact (Only.set (S := (· = pm)) w 1 _ rfl).trans (Only.alloc _ _ _)
        have hR1 : Row w1 pm (encP limit (.slice (some ⟨g, off + 3, none⟩) T (cap - 1)) bv err { p with wire := { p.wire with events := es } }) := by rw [← HW1.out]; exact ((hR.set 1 (.slice (some ⟨g, off + 3, none⟩) T (cap - 1)) (by simp [encP])).alloc (by simp [encP]) _)
        have hP1 : PM pm limit { p with wire := { p.wire with events := es } } err w1 := PM.mk' (p := p) (w := w) hR1 hO1 hlt hT (by omega) (by omega) hE1 (fun g' off' e _ => by injection e with e; injection e with e1 _; omega) hO rfl hbn hok1
        have hW1 : RepW ad B w1 := hW.keep (only_keeps hO1 hB hlt)
        have hEr : Row w1 w.heap.size [.int .i64 et, .int .i64 ew, .string ⟨ed.toArray⟩] := by rw [← HW1.out]; exact row_new' _ #[.int .i64 et, .int .i64 ew, .string ⟨ed.toArray⟩] _ w.heap.size (by simp)
        have HEr : Hid (Row w1 w.heap.size [.int .i64 et, .int .i64 ew, .string ⟨ed.toArray⟩]) := hEr
        have HO1 : Hid (Only (· = pm) w w1) := hO1
        have HW : Hid (RepW ad B w1) := hW1
        have Hev : Hid (p.wire.events = ⟨et, ew, ed⟩ :: es) := hev
        have Hrf : Hid (p.wire.refused = false) := hrf
        have HB1 : Hid (ed.length ≤ 140737488355328) := b1
        by_cases hl : p.wire.deadline - p.wire.ticks < max et 0
        · have HN : Hid (nextW p.wire = (some (.again, 2), { p.wire with events := es, ticks := p.wire.deadline })) := by show _ = _; unfold nextW; rw [if_neg (by rw [hrf]; decide), hev]; simp only []; rw [if_pos hl]
          have HC := wait_late pm limit _ err ad B et w1 hP1 hW1 hB hl
          clear hR hE hO h hW hrf hev hn hT hR1 hP1 hW1 hEr hO1 hE1 hok1 hl
          go_enter Tryz.func62, Tryz.ntmps62
          go_wp2_with fail
          rw [HW1.out]
          refine HC.mono ?_
          rintro e w2 ⟨rfl, hP2, hO2⟩
          have HF : Hid (NextE ad pm limit p err (.returned (errV ad 2)) w2) := NextE.no HN.out hP2
          have HK : Hid (Only (· = pm) w w2) := HO1.out.trans hO2
          clear hP2 hO2 HC
          simp only [errV]
          go_wp2
          go_ret
          exact ⟨HF.out, HK.out⟩
        · have HC := wait_ok pm limit _ err et w1 hP1 hl
          have HNx : Hid (nextW p.wire = if ew = 1 then (none, { p.wire with events := es, ticks := p.wire.ticks + max et 0, rest := ed }) else if ew = 3 then (some (.closed, 3), { p.wire with events := es, ticks := p.wire.ticks + max et 0 }) else (some (.again, 1), { p.wire with events := es, ticks := p.wire.ticks + max et 0 })) := by show _ = _; unfold nextW; rw [if_neg (by rw [hrf]; decide), hev]; simp only []; rw [if_neg hl]
          clear hR hE hO h hW hrf hev hn hT hR1 hP1 hW1 hEr hO1 hE1 hok1 hl
          go_enter Tryz.func62, Tryz.ntmps62
          go_wp2_with fail
          rw [HW1.out]
          refine HC.mono ?_
          rintro e w2 ⟨rfl, hP2, hO2⟩
          have hEr2 : Row w2 w.heap.size [.int .i64 et, .int .i64 ew, .string ⟨ed.toArray⟩] := HEr.out.only (by simp) hO2 (fun e => by have e : w.heap.size = pm := e; omega)
          have y1 : w2.cell? ⟨w.heap.size, 1, none⟩ = some (.int .i64 ew) := hEr2.cell 1 _ rfl
          have y2 : w2.cell? ⟨w.heap.size, 2, none⟩ = some (.string ⟨ed.toArray⟩) := hEr2.cell 2 _ rfl
          have hl1 : pm < w1.heap.size := Nat.lt_of_lt_of_le hlt HO1.out.size
          have hW2 : RepW ad B w2 := HW.out.keep (only_keeps hO2 hB hl1)
          have HK : Hid (Only (· = pm) w w2) := HO1.out.trans hO2
          have HP2 : Hid (PM pm limit { p with wire := { p.wire with events := es, ticks := p.wire.ticks + max et 0 } } err w2) := hP2
          have gc := hW2.closed
          have gr := hW2.reset
          have c2 : w2.cell? ⟨pm, 2, none⟩ = some (.string ⟨p.wire.rest.toArray⟩) := by obtain ⟨_, _, _, _, q, _⟩ := hP2.ex; exact q.cell 2 _ rfl
          have f2 : w2.frozen? ⟨pm, 2, none⟩ = false := by obtain ⟨_, _, _, _, q, _⟩ := hP2.ex; exact q.fro 2
          have HFr : Hid (PM pm limit { p with wire := { p.wire with events := es, ticks := p.wire.ticks + max et 0, rest := ed } } err (w2.setCell ⟨pm, 2, none⟩ (.string ⟨ed.toArray⟩))) := hP2.rest ed HB1.out
          have HKr : Hid (Only (· = pm) w (w2.setCell ⟨pm, 2, none⟩ (.string ⟨ed.toArray⟩))) := HK.out.trans (Only.set (S := (· = pm)) _ 2 _ rfl)
          clear hP2 hO2 HC hEr2 hW2
          by_cases w1e : ew = 1
          · have b1e : (ew == 1) = true := by rw [w1e]; rfl
            have HF : Hid (NextE ad pm limit p err (.returned .nilIface) (w2.setCell ⟨pm, 2, none⟩ (.string ⟨ed.toArray⟩))) := NextE.ok (by rw [HNx.out, if_pos w1e]) HFr.out
            clear w1e
            go_wp2
            go_ret
            exact ⟨HF.out, HKr.out⟩
          · have b1e : (ew == 1) = false := by rw [beq_eq_false_iff_ne]; exact w1e
            by_cases w3e : ew = 3
            · have b3e : (ew == 3) = true := by rw [w3e]; rfl
              have HF : Hid (NextE ad pm limit p err (.returned (errV ad 3)) w2) := NextE.no (by rw [HNx.out, if_neg w1e, if_pos w3e]) HP2.out
              clear w1e w3e
              go_wp2
              go_ret
              exact ⟨HF.out, HK.out⟩
            · have b3e : (ew == 3) = false := by rw [beq_eq_false_iff_ne]; exact w3e
              have HF : Hid (NextE ad pm limit p err (.returned (errV ad 1)) w2) := NextE.no (by rw [HNx.out, if_neg w1e, if_neg w3e]) HP2.out
              clear w1e w3e
              go_wp2
              go_ret
              exact ⟨HF.out, HK.out⟩
end Go.Proofs.YtmodongnganbfaaGreatDoor.Rep
/- Replies: the wire's take. -/
namespace Go.Proofs.YtmodongnganbfaaGreatDoor.Rep
open Go.RowKit Go.Proofs.YtmodongnganbfaaGreatDoor Go.Proofs.YtmodongnganbfaaGreatDoor.Sha
/-- What take tells and leaves. -/
def TakeE (ad : Nat → Addr) (pm limit : Nat) (p : Ps) (err : Value) (e : Ending) (w' : World) : Prop := match take p.wire with
  | (.ok c, W') => e = .returned (.tuple #[.int .u8 c.toNat, .nilIface]) ∧ PM pm limit { p with wire := W' } err w'
  | (.error y, W') => ∃ i, i < 4 ∧ (i = 3 ↔ y = .closed) ∧ e = .returned (.tuple #[.int .u8 0, errV ad i]) ∧ PM pm limit { p with wire := W' } err w'
theorem TakeE.ok {ad : Nat → Addr} {pm limit : Nat} {p : Ps} {err : Value} {w' : World} {W : Wire} {c : UInt8} (ht : take p.wire = (.ok c, W)) (h : PM pm limit { p with wire := W } err w') : TakeE ad pm limit p err (.returned (.tuple #[.int .u8 c.toNat, .nilIface])) w' := by
  unfold TakeE; rw [ht]; exact ⟨rfl, h⟩
theorem TakeE.no {ad : Nat → Addr} {pm limit : Nat} {p : Ps} {err : Value} {w' : World} {W : Wire} {y : Why} (i : Nat) (hi : i < 4) (hy : i = 3 ↔ y = .closed) (ht : take p.wire = (.error y, W)) (h : PM pm limit { p with wire := W } err w') : TakeE ad pm limit p err (.returned (.tuple #[.int .u8 0, errV ad i])) w' := by
  unfold TakeE; rw [ht]; exact ⟨i, hi, hy, rfl, h⟩
theorem next_why {W W' : Wire} {y : Why} {i : Nat} (h : nextW W = (some (y, i), W')) : i < 4 ∧ (i = 3 ↔ y = .closed) := by
  unfold nextW at h
  split at h
  · simp only [Prod.mk.injEq, Option.some.injEq] at h; obtain ⟨⟨rfl, rfl⟩, _⟩ := h; simp
  · split at h
    · simp only [Prod.mk.injEq, Option.some.injEq] at h; obtain ⟨⟨rfl, rfl⟩, _⟩ := h; simp
    · split at h
      · simp only [Prod.mk.injEq, Option.some.injEq] at h; obtain ⟨⟨rfl, rfl⟩, _⟩ := h; simp
      · split at h
        · simp at h
        · split at h
          · simp only [Prod.mk.injEq, Option.some.injEq] at h; obtain ⟨⟨rfl, rfl⟩, _⟩ := h; simp
          · simp only [Prod.mk.injEq, Option.some.injEq] at h; obtain ⟨⟨rfl, rfl⟩, _⟩ := h; simp
/-- How many events there are still. -/
def evLen (pm : Nat) (w : World) : Nat := match w.cell? ⟨pm, 1, none⟩ with
  | some (.slice _ n _) => n
  | _ => 0
theorem PM.evLen {pm limit : Nat} {p : Ps} {err : Value} {w : World} (h : PM pm limit p err w) : evLen pm w = p.wire.events.length := by
  obtain ⟨ao, n, cap, bv, hR, hn, _⟩ := h.ex
  have q : w.cell? ⟨pm, 1, none⟩ = some (.slice ao n cap) := hR.cell 1 _ rfl
  unfold Rep.evLen
  rw [q, hn]
theorem PM.c2 {pm limit : Nat} {p : Ps} {err : Value} {w : World} (h : PM pm limit p err w) : w.cell? ⟨pm, 2, none⟩ = some (.string ⟨p.wire.rest.toArray⟩) ∧ w.frozen? ⟨pm, 2, none⟩ = false := by
  obtain ⟨ao, n, cap, bv, hR, _⟩ := h.ex
  exact ⟨hR.cell 2 _ rfl, hR.fro 2⟩
structure TInv (pm limit : Nat) (p : Ps) (err : Value) (w : World) (W : Wire) (wr : World) : Prop where
  mem : PM pm limit { p with wire := W } err wr
  eq : take p.wire = take W
  only : Only (· = pm) w wr
set_option maxHeartbeats 2000000 in
set_option maxRecDepth 100000 in
theorem wtake_walk (pm limit : Nat) (p : Ps) (err : Value) (ad : Nat → Addr) (B : Nat) (w : World) (h : PM pm limit p err w) (hW : RepW ad B w) (hB : B ≤ pm) :
    Calls Tryz.prog 44 #[.pointer (some ⟨pm, 0, none⟩)] w fun e w' => TakeE ad pm limit p err e w' ∧ Only (· = pm) w w' := by
  have hlt := h.lt
  have HI0 : Hid (TInv pm limit p err w p.wire w) := ⟨h, rfl, Only.refl _ _⟩
  have HW : Hid (RepW ad B w) := hW
  clear h hW
  go_enter Tryz.func44, Tryz.ntmps44
  go_wp2
  go_loopw [] (fun wr => ∃ W, Hid (TInv pm limit p err w W wr)) (fun wr => evLen pm wr)
  case atStart => exact ⟨p.wire, HI0⟩
  case round =>
    obtain ⟨W, HI⟩ := hrel
    obtain ⟨c2, f2⟩ := HI.out.mem.c2
    simp only [] at c2
    cases hr : W.rest with
    | nil =>
      rw [hr] at c2
      have hWr : RepW ad B wr := HW.out.keep (only_keeps HI.out.only hB hlt)
      have HC := next_walk pm limit { p with wire := W } err ad B wr HI.out.mem hWr hB
      have Hr : Hid (W.rest = []) := hr
      clear hr hWr
      go_wp2_with fail
      refine HC.mono ?_
      rintro e w2 ⟨hN, hO2⟩
      have HO2 : Hid (Only (· = pm) w w2) := HI.out.only.trans hO2
      have HT := take_next Hr.out
      unfold NextE at hN
      simp only [] at hN
      rcases hnx : nextW W with ⟨o, W'⟩
      rw [hnx] at hN HT
      cases o with
      | none =>
        obtain ⟨rfl, hP2⟩ := hN
        have HI2 : Hid (TInv pm limit p err w W' w2) := ⟨hP2, HI.out.eq.trans HT, HO2.out⟩
        have HL : Hid (evLen pm w2 < evLen pm wr) := by
          show _ < _
          rw [hP2.evLen, HI.out.mem.evLen]
          exact next_len hnx
        clear hP2 hO2 HC HT hnx
        go_wp2
        go_roundw
        case rel => exact ⟨W', HI2⟩
        case measure => exact HL.out
      | some y =>
        obtain ⟨y, i⟩ := y
        obtain ⟨rfl, hP2⟩ := hN
        obtain ⟨hi, hy⟩ := next_why hnx
        have HF : Hid (TakeE ad pm limit p err (.returned (.tuple #[.int .u8 0, errV ad i])) w2) := TakeE.no i hi hy (HI.out.eq.trans HT) hP2
        clear hP2 hO2 HC HT hnx hy
        simp only [errV] at HF ⊢
        go_wp2
        go_ret2
        exact ⟨HF.out, HO2.out⟩
    | cons c r =>
      obtain ⟨s, es⟩ : ∃ s : ByteArray, s = ⟨(c :: r).toArray⟩ := ⟨_, rfl⟩
      rw [hr, ← es] at c2
      have hsl : s.size = r.length + 1 := by rw [es]; show (c :: r).toArray.size = _; simp
      have h0 : 0 < s.size := by omega
      have hc0 : s[0] = c := by subst es; rfl
      have HX : Hid (s.extract 1 s.size = ⟨r.toArray⟩) := by
        apply ba_ext
        rw [extract_list, List.take_of_length_le (by rw [List.length_drop, size_len]; exact Nat.le_refl _)]
        rw [es]; simp
      have bne : (s.toList == []) = false := by
        have e := size_len s
        rw [ByteArray.toList_eq]
        cases hq : s.data.toList with
        | nil => rw [hq] at e; simp only [List.length_nil] at e; omega
        | cons a l => rfl
      have hsx : ∀ wx, (Instr.slice 9 (.string s) (some (.int .i64 1)) none none).run Tryz.prog wx = .ok (.string ⟨r.toArray⟩) wx := fun wx => by
        rw [run_slice_string_from_if wx 9 s .i64 1 Tryz.underlying9, if_pos (by omega)]
        show Result.ok (Value.string (s.extract 1 s.size)) wx = _
        rw [HX.out]
      have hrl := HI.out.mem.ok.rest
      simp only [hr, List.length_cons] at hrl
      have HF : Hid (TakeE ad pm limit p err (.returned (.tuple #[.int .u8 c.toNat, .nilIface])) (wr.setCell ⟨pm, 2, none⟩ (.string ⟨r.toArray⟩))) := by
        refine TakeE.ok (W := { W with rest := r }) ?_ (HI.out.mem.rest r (by omega))
        rw [HI.out.eq]
        unfold take
        rw [hr]
      have HK : Hid (Only (· = pm) w (wr.setCell ⟨pm, 2, none⟩ (.string ⟨r.toArray⟩))) := HI.out.only.trans (Only.set (S := (· = pm)) _ 2 _ rfl)
      have hcv : ((s[0]).toNat : Int) = (c.toNat : Int) := by rw [hc0]
      clear es hr hc0 hrl
      go_wp2
      go_ret2
      exact ⟨HF.out, HK.out⟩
end Go.Proofs.YtmodongnganbfaaGreatDoor.Rep
