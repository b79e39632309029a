/- Replies: the program's readHead. -/
import Derived.Test.YtmodongnganbfaaGreatDoorRpR
namespace Go.Proofs.YtmodongnganbfaaGreatDoor.Rep
open Go.RowKit Go.Proofs.YtmodongnganbfaaGreatDoor Go.Proofs.YtmodongnganbfaaGreatDoor.Sha Go.Proofs.YtmodongnganbfaaGreatDoor.Inf
theorem of_walk (ta tb : TypeId) (a b : Value) (w : World) : Calls Tryz.prog 43 #[.iface ta a, .iface tb b] w fun e w' => e = .returned (.iface 75 (.pointer (some ⟨w.heap.size, 0, none⟩))) ∧ w' = w.alloc (.cells #[.iface ta a, .iface tb b] 92) := by
  go_enter Tryz.func43, Tryz.ntmps43
  go_wp2
  go_ret
  exact ⟨rfl, rfl⟩
set_option maxHeartbeats 4000000 in
set_option maxRecDepth 100000 in
/-- Behind a fault no line is taken. -/
theorem lines_dead (pm limit : Nat) (p : Ps) (ad : Nat → Addr) (B : Nat) (tf : TypeId) (vf : Value) (w : World) (h : PM pm limit p (.iface tf vf) w) (hW : RepW ad B w) :
    Calls Tryz.prog 41 #[.pointer (some ⟨pm, 0, none⟩)] w fun e w' => e = .returned (.slice none 0 0) ∧ w' = w := by
  have HC := takeOfLine_dead pm limit p tf vf w h
  have HIt : Calls Tryz.prog 58 #[.int .u8 0] w fun e w' => e = .returned (.bool false) ∧ w' = w := isName_n 0 w (by decide)
  have HC2 := broken_later pm limit p ad B tf vf (.iface 182 (.pointer (some (ad 6)))) w h hW
  have gb := hW.byte
  clear h hW
  go_enter Tryz.func41, Tryz.ntmps41
  go_wp2
  refine scope_fall (fun n l a' w' => ∃ (v fv : Value) (cz : Int), (∃ f : Nat → Value, a' = { tmps := #[.pointer (some ⟨pm, 0, none⟩), undef, .slice none 0 0, .int .u8 cz, v, fv, f 6, f 7, f 8, f 9, f 10, f 11, f 12, f 13, f 14, f 15, f 16, f 17, f 18, f 19, f 20, f 21, f 22, f 23, f 24, f 25, f 26, f 27, f 28, f 29, f 30, f 31, f 32, f 33, f 34, f 35, f 36, f 37, f 38, f 39], defers := [] }) ∧ ((l = 0 ∧ n = 1) ∨ (l = 2 ∧ n = 0 ∧ cz = 0)) ∧ w' = w) ?_ ?_
  · rintro n ih l a' wr ⟨v, fv, cz, ⟨f, rfl⟩, ⟨rfl, rfl⟩ | ⟨rfl, rfl, rfl⟩, rfl⟩
    · refine ⟨_, rfl, ?_⟩
      go_wp2_with fail
      refine HC.mono ?_
      rintro e w1 ⟨rfl, rfl⟩
      go_wp2_with fail
      go_step3
      rename_i hKK
      exact hKK _ _ (fall2 (ih 0 2 _ _ (by omega) ⟨_, _, _, mkF rfl, .inr ⟨rfl, rfl, rfl⟩, rfl⟩) rfl fun k' l' a' w' hk' hJ => ⟨k', by omega, hJ⟩)
    · refine ⟨_, rfl, ?_⟩
      go_wp2_with fail
      refine HIt.mono ?_
      rintro e w2 ⟨rfl, rfl⟩
      go_wp2_with fail
      refine HC2.mono ?_
      rintro e w3 ⟨rfl, rfl⟩
      go_wp2
      simp only [jumps]
      go_ret
      exact ⟨rfl, rfl⟩
  · intro all
    go_wp2_with fail
    go_step3
    rename_i hKK
    exact hKK _ _ (fall2 (all 1 0 _ _ ⟨_, _, _, mkF rfl, .inl ⟨rfl, rfl⟩, rfl⟩) rfl fun k l' a' w' _ hJ => ⟨k, hJ⟩)
/-- The machine's cells with another head. -/
def putHd (pm : Nat) (h : Hd) (w : World) : World := ((((((((((w.setCell ⟨pm, 7, none⟩ (.int .i64 (h.status : Int))).setCell ⟨pm, 8, none⟩ (.bool h.hasLength)).setCell ⟨pm, 9, none⟩ (.int .i64 (h.length : Int))).setCell ⟨pm, 10, none⟩ (.bool h.chunked)).setCell ⟨pm, 11, none⟩ (.bool h.hasTag)).setCell ⟨pm, 12, none⟩ (.string ⟨h.tag.toArray⟩)).setCell ⟨pm, 13, none⟩ (.bool h.hasRange)).setCell ⟨pm, 14, none⟩ (.int .i64 (h.first : Int))).setCell ⟨pm, 15, none⟩ (.int .i64 (h.last : Int))).setCell ⟨pm, 16, none⟩ (.int .i64 (h.total : Int)))
theorem putHd_only (pm : Nat) (h : Hd) (w : World) : Only (· = pm) w (putHd pm h w) := (((((((((((Only.refl _ _).trans (Only.set (S := (· = pm)) _ 7 _ rfl)).trans (Only.set (S := (· = pm)) _ 8 _ rfl)).trans (Only.set (S := (· = pm)) _ 9 _ rfl)).trans (Only.set (S := (· = pm)) _ 10 _ rfl)).trans (Only.set (S := (· = pm)) _ 11 _ rfl)).trans (Only.set (S := (· = pm)) _ 12 _ rfl)).trans (Only.set (S := (· = pm)) _ 13 _ rfl)).trans (Only.set (S := (· = pm)) _ 14 _ rfl)).trans (Only.set (S := (· = pm)) _ 15 _ rfl)).trans (Only.set (S := (· = pm)) _ 16 _ rfl))
theorem PM.setHd {pm limit : Nat} {p : Ps} {err : Value} {w : World} (g : PM pm limit p err w) (h : Hd) : PM pm limit { p with hd := h } err (putHd pm h w) := by
  have hl := g.lt
  obtain ⟨ao, n, cap, bv, hR, hn, hc, hc2, hE, hg, hO, hbn⟩ := g.ex
  exact PM.mk' (p := p) (w := w) ((((((((((hR.set 7 (.int .i64 (h.status : Int)) (by simp [encP])).set 8 (.bool h.hasLength) (by simp [encP])).set 9 (.int .i64 (h.length : Int)) (by simp [encP])).set 10 (.bool h.chunked) (by simp [encP])).set 11 (.bool h.hasTag) (by simp [encP])).set 12 (.string ⟨h.tag.toArray⟩) (by simp [encP])).set 13 (.bool h.hasRange) (by simp [encP])).set 14 (.int .i64 (h.first : Int)) (by simp [encP])).set 15 (.int .i64 (h.last : Int)) (by simp [encP])).set 16 (.int .i64 (h.total : Int)) (by simp [encP])) (putHd_only pm h w) hl hn hc hc2 hE hg hO rfl hbn g.ok
theorem PM.c5 {pm limit : Nat} {p : Ps} {err : Value} {w : World} (h : PM pm limit p err w) : w.cell? ⟨pm, 5, none⟩ = some (.int .i64 (limit : Int)) := by
  obtain ⟨ao, n, cap, bv, hR, _⟩ := h.ex
  exact hR.cell 5 _ rfl
theorem PM.hcells {pm limit : Nat} {p : Ps} {err : Value} {w : World} (h : PM pm limit p err w) : w.cell? ⟨pm, 7, none⟩ = some (.int .i64 (p.hd.status : Int)) ∧ w.cell? ⟨pm, 8, none⟩ = some (.bool p.hd.hasLength) ∧ w.cell? ⟨pm, 9, none⟩ = some (.int .i64 (p.hd.length : Int)) ∧ w.cell? ⟨pm, 10, none⟩ = some (.bool p.hd.chunked) ∧ w.cell? ⟨pm, 11, none⟩ = some (.bool p.hd.hasTag) ∧ w.cell? ⟨pm, 12, none⟩ = some (.string ⟨p.hd.tag.toArray⟩) ∧ w.cell? ⟨pm, 13, none⟩ = some (.bool p.hd.hasRange) ∧ w.cell? ⟨pm, 14, none⟩ = some (.int .i64 (p.hd.first : Int)) ∧ w.cell? ⟨pm, 15, none⟩ = some (.int .i64 (p.hd.last : Int)) ∧ w.cell? ⟨pm, 16, none⟩ = some (.int .i64 (p.hd.total : Int)) ∧ ∀ i, w.frozen? ⟨pm, i, none⟩ = false := by
  obtain ⟨ao, n, cap, bv, hR, _⟩ := h.ex
  exact ⟨hR.cell 7 _ rfl, hR.cell 8 _ rfl, hR.cell 9 _ rfl, hR.cell 10 _ rfl, hR.cell 11 _ rfl, hR.cell 12 _ rfl, hR.cell 13 _ rfl, hR.cell 14 _ rfl, hR.cell 15 _ rfl, hR.cell 16 _ rfl, hR.fro⟩
/-- What a fault leaves. -/
def DeadE (ad : Nat → Addr) (pm limit : Nat) (R : Res) (p : Ps) (w' : World) : Prop :=
  ∃ tf vf W r, PM pm limit { p with wire := W, room := r } (.iface tf vf) w' ∧ Faulted ad pm R { p with wire := W, room := r } (.iface tf vf) w'
/-- How readHead ends. -/
def HeadE (ad : Nat → Addr) (pm limit : Nat) (R : Res) (p : Ps) (w' : World) : Prop :=
  (∃ st s W r u nm vl fs, PM pm limit { p with wire := W, room := r, hd := hdN st s } .nilIface w' ∧ NoteOk s ∧ fits st limit s.head = true ∧ 100 ≤ st ∧ st ≤ 599 ∧ R = (match nextM st s (hmc st u nm vl fs s) with | none => ⟨none, W.ticks⟩ | some m' => goOn limit m' W)) ∨ DeadE ad pm limit R p w'
theorem head_after {limit : Nat} {R : Res} {st u0 u : Nat} {nm vl : Bytes} {fs : List (Bytes × Bytes)} {W : Wire} (hu : u < 400) (h : After limit R (lmm (fmm st u0) 4 14 u nm vl fs) 10 W) :
    (∀ s, goodN st limit fs = some s → fits st limit s.head = true ∧ R = (match nextM st s (hmc st (u + 1) nm vl fs s) with | none => ⟨none, W.ticks⟩ | some m' => goOn limit m' W)) ∧ (goodN st limit fs = none → R = ⟨none, W.ticks⟩) := by
  unfold After at h
  rw [head_fed hu] at h
  unfold goodN
  cases hn : notes Note.none (fs.map lowF) with
  | none =>
    rw [hn] at h
    exact ⟨fun s e => (by cases e), fun _ => h⟩
  | some s =>
    rw [hn] at h
    simp only [Option.bind_some] at h ⊢
    cases hf : fits st limit s.head with
    | true =>
      rw [hf] at h
      simp only [if_true] at h ⊢
      refine ⟨fun s' e => ?_, fun e => (by cases e)⟩
      injection e with e
      subst e
      exact ⟨hf, h⟩
    | false =>
      rw [hf] at h
      simp only [Bool.false_eq_true, if_false] at h ⊢
      exact ⟨fun s' e => (by cases e), fun _ => h⟩
set_option maxHeartbeats 8000000 in
set_option maxRecDepth 100000 in
theorem readHead_walk (pm limit : Nat) (R : Res) (p : Ps) (ad : Nat → Addr) (B : Nat) (mx : Int) (w : World) (h : PM pm limit p .nilIface w) (hX : RepX ad B mx w) (hB : B ≤ pm) (h1 : p.hd = Hd.none) (h2 : p.body = []) (hR : goOn limit Mc.new p.wire = R) :
    Calls Tryz.prog 25 #[.pointer (some ⟨pm, 0, none⟩)] w fun e w' => (e = .returned (.tuple #[]) ∧ HeadE ad pm limit R p w') ∧ Only (· = pm) w w' := by
  have hlt := h.lt
  obtain ⟨c6, f6⟩ := h.c6
  have HX : Hid (RepX ad B mx w) := hX
  have hBv : ∀ g, p.bv.ownBlock = some g → g < w.heap.size := h.bvlt
  have HBv : Hid (∀ g, p.bv.ownBlock = some g → g < w.heap.size) := hBv
  have H1 : Hid (p.hd = Hd.none) := h1
  have H2 : Hid (p.body = []) := h2
  obtain ⟨w0, HW0⟩ : ∃ w0, Hid (w.setCell ⟨pm, 6, none⟩ (.int .i64 400) = w0) := ⟨_, rfl⟩
  have HO0 : Hid (Only (· = pm) w w0) := by show Only _ _ _; rw [← HW0.out]; exact Only.set (S := (· = pm)) w 6 _ rfl
  have hP0 : PM pm limit { p with room := 400 } .nilIface w0 := by rw [← HW0.out]; exact h.setRoom 400
  have hX0 := hX.keep (only_keeps HO0.out hB hlt)
  have HC0 := startLine_alive pm limit R { p with room := 400 } ad B w0 hP0 hX0.er hB h1 h2 rfl hR
  clear h hX hR h1 h2 hP0 hX0 hBv
  go_enter Tryz.func25, Tryz.ntmps25
  go_wp2_with fail
  rw [HW0.out]
  refine HC0.mono ?_
  rintro e w1 ⟨hE1, hO1⟩
  have HO1 : Hid (Only (· = pm) w w1) := HO0.out.trans hO1
  have hl1 : pm < w1.heap.size := Nat.lt_of_lt_of_le hlt HO1.out.size
  have hX1 := HX.out.keep (only_keeps HO1.out hB hlt)
  clear hO1 HC0
  rcases hE1 with ⟨st, u, r, W, rfl, hst1, hst2, hur, hP1, hg1⟩ | ⟨x, tf, vf, W, r, rfl, hP1, hF1⟩
  · have hT : Tells (fmm st u) p.hd p.body := tells_new H1.out H2.out rfl
    have hL : LSt pm limit R (fmm st u) p w1 [] (.slice none 0 0) r W w1 := by
      refine ⟨⟨hP1, World.ownsRow_nil _ _ _ _, fun f hf => (by cases hf), (by simp; omega), Only.refl _ _, fun g hg => (by cases hg)⟩, 5, u, [], [], hur, ?_⟩
      exact hg1
    have HC1 := lines_any pm limit R (fmm st u) p ad B w1 hX1.er hB hl1 (fun g hg => Nat.lt_of_lt_of_le (HBv.out g hg) HO1.out.size) hT (.inl ⟨u, r, W, hL, hur⟩)
    clear hP1 hg1 hT hL hX1
    go_wp2_with fail
    refine HC1.mono ?_
    rintro e w2 ⟨hE2, hO2⟩
    have HO2 : Hid (Only (· = pm) w w2) := HO1.out.trans hO2
    have hl2 : pm < w2.heap.size := Nat.lt_of_lt_of_le hlt HO2.out.size
    have hX2 := HX.out.keep (only_keeps HO2.out hB hlt)
    clear hO2 HC1
    rcases hE2 with ⟨v, fs, W2, r2, u2, nm, vl, rfl, hu2, hP2, hrow, hgf, hn4, hA⟩ | ⟨v, rfl, tf, vf, W2, r2, hP2, hF2⟩
    · obtain ⟨c18, f18⟩ := hP2.c18
      have c5 := hP2.c5
      obtain ⟨hA1, hA2⟩ := head_after (by omega) hA
      have HP2 : Hid (PM pm limit { p with wire := W2, room := r2 } .nilIface w2) := hP2
      have HA1 : Hid (∀ s, goodN st limit fs = some s → fits st limit s.head = true ∧ R = (match nextM st s (hmc st (u2 + 1) nm vl fs s) with | none => ⟨none, W2.ticks⟩ | some m' => goOn limit m' W2)) := hA1
      have HA2 : Hid (goodN st limit fs = none → R = ⟨none, W2.ticks⟩) := hA2
      have HC2 := understand_walk st limit v fs _ ad B mx w2 hX2 (by omega) hrow hgf hn4
      clear hP2 hA hA1 hA2 hX2 hrow hgf
      go_wp2_with fail
      refine HC2.mono ?_
      rintro e w3 ⟨hE3, hb3⟩
      have HP3 : Hid (PM pm limit { p with wire := W2, room := r2 } .nilIface w3) := HP2.out.below hb3
      have HO3 : Hid (Only (· = pm) w w3) := HO2.out.trans (Only.of_below hb3)
      have hl3 : pm < w3.heap.size := Nat.lt_of_lt_of_le hl2 hb3.size
      clear c18 f18 c5 hb3 HC2
      rcases hE3 with ⟨s, hs, hok, rfl⟩ | ⟨hs, t, x, rfl⟩
      · obtain ⟨hft, hRe⟩ := HA1.out s hs
        obtain ⟨k7, k8, k9, k10, k11, k12, k13, k14, k15, k16, kf⟩ := HP3.out.hcells
        obtain ⟨wf, HWf⟩ : ∃ wf, Hid ((putHd pm (hdN st s) w3).alloc (.cells (encH (hdN st s)).toArray 47) = wf) := ⟨_, rfl⟩
        have HPf : Hid (PM pm limit { p with wire := W2, room := r2, hd := hdN st s } .nilIface wf) := by show PM _ _ _ _ _; rw [← HWf.out]; exact (HP3.out.setHd (hdN st s)).below ((Below.refl _ _).alloc (Nat.le_refl _) _)
        have HOf : Hid (Only (· = pm) w wf) := by show Only _ _ _; rw [← HWf.out]; exact (HO3.out.trans (putHd_only pm _ _)).trans (Only.alloc _ _ _)
        have HEf : Hid (HeadE ad pm limit R p wf) := .inl ⟨st, s, W2, r2, u2 + 1, nm, vl, fs, HPf.out, hok, hft, hst1, hst2, hRe⟩
        obtain ⟨⟨a0, a1, a2, a3, a4, a5, a6, a7, a8, a9⟩, hhd⟩ : ∃ q, hdN st s = q := ⟨_, rfl⟩
        rw [hhd] at HWf
        rw [hhd]
        simp only [encH] at HWf ⊢
        simp only [putHd] at HWf
        clear hs hok hft hRe hhd
        go_wp2
        first | go_end0 | refine bodyPost_ret (results_none rfl _ _ _) rfl ?_
        rw [HWf.out]
        exact ⟨⟨rfl, HEf.out⟩, HOf.out⟩
      · have HRn : Hid (R = ⟨none, W2.ticks⟩) := HA2.out hs
        have hb4 : Below w3.heap.size w3 (w3.alloc (.cells #[.int .i64 0, .bool false, .int .i64 0, .bool false, .bool false, .string ⟨#[]⟩, .bool false, .int .i64 0, .int .i64 0, .int .i64 0] 47)) := (Below.refl _ _).alloc (Nat.le_refl _) _
        have hX3 := HX.out.keep (only_keeps HO3.out hB hlt)
        have gh := hX3.er.head
        have hgl := lt_of_cell gh
        have hP5 : PM pm limit { p with wire := W2, room := r2 } .nilIface ((w3.alloc (.cells #[.int .i64 0, .bool false, .int .i64 0, .bool false, .bool false, .string ⟨#[]⟩, .bool false, .int .i64 0, .int .i64 0, .int .i64 0] 47)).alloc (.cells #[.iface 182 (.pointer (some (ad 8))), .iface t x] 92)) := (HP3.out.below hb4).below ((Below.refl _ _).alloc (Nat.le_refl _) _)
        have HO5 : Hid (Only (· = pm) w ((w3.alloc (.cells #[.int .i64 0, .bool false, .int .i64 0, .bool false, .bool false, .string ⟨#[]⟩, .bool false, .int .i64 0, .int .i64 0, .int .i64 0] 47)).alloc (.cells #[.iface 182 (.pointer (some (ad 8))), .iface t x] 92))) := (HO3.out.trans (Only.alloc _ _ _)).trans (Only.alloc _ _ _)
        have hX5 := HX.out.keep (only_keeps HO5.out hB hlt)
        have HC5 := fun y => broken_first pm limit _ ad B y 75 _ hP5 hX5.er
        clear hP5 hX5 hs hX3 hb4
        have ez : (encH Hd.none).toArray = #[.int .i64 0, .bool false, .int .i64 0, .bool false, .bool false, .string ⟨#[]⟩, .bool false, .int .i64 0, .int .i64 0, .int .i64 0] := rfl
        rw [ez]
        clear ez
        go_wp2_with fail
        refine (of_walk _ _ _ _ _).mono ?_
        rintro e w5 ⟨rfl, rfl⟩
        go_wp2_with fail
        refine (HC5 _).mono ?_
        rintro e w6 ⟨rfl, ⟨err, hP6, hF6⟩, hO6⟩
        obtain ⟨f, rfl, q⟩ := hF6
        have HEf : Hid (HeadE ad pm limit R p w6) := .inr ⟨_, _, W2, r2, hP6, .inl ⟨⟨f, rfl, q⟩, HRn.out⟩⟩
        have HO6 : Hid (Only (· = pm) w w6) := HO5.out.trans hO6
        clear hP6 q hO6 HC5
        go_wp2
        first | go_end0 | refine bodyPost_ret (results_none rfl _ _ _) rfl ?_
        exact ⟨⟨rfl, HEf.out⟩, HO6.out⟩
    · obtain ⟨c18, f18⟩ := hP2.c18
      have HEf : Hid (HeadE ad pm limit R p w2) := .inr ⟨tf, vf, W2, r2, hP2, hF2⟩
      clear hP2 hF2 hX2
      go_wp2
      first | go_end0 | refine bodyPost_ret (results_none rfl _ _ _) rfl ?_
      exact ⟨⟨rfl, HEf.out⟩, HO2.out⟩
  · obtain ⟨c18, f18⟩ := hP1.c18
    have HC1 := lines_dead pm limit _ ad B tf vf w1 hP1 hX1.er
    have HEf : Hid (HeadE ad pm limit R p w1) := .inr ⟨tf, vf, W, r, hP1, hF1⟩
    clear hP1 hF1 hX1
    go_wp2_with fail
    refine HC1.mono ?_
    rintro e w2 ⟨rfl, rfl⟩
    go_wp2
    first | go_end0 | refine bodyPost_ret (results_none rfl _ _ _) rfl ?_
    exact ⟨⟨rfl, HEf.out⟩, HO1.out⟩
end Go.Proofs.YtmodongnganbfaaGreatDoor.Rep
/- Replies: the program's pass. -/
namespace Go.Proofs.YtmodongnganbfaaGreatDoor.Rep
open Go.RowKit Go.Proofs.YtmodongnganbfaaGreatDoor Go.Proofs.YtmodongnganbfaaGreatDoor.Sha Go.Proofs.YtmodongnganbfaaGreatDoor.Inf
theorem only_ge_keeps {pm b : Nat} {w w' : World} (h : Only (fun x => pm ≤ x) w w') (hb : b ≤ pm) (hl : b ≤ w.heap.size) : Below b w w' := ⟨h.os, h.tape, h.output, h.size, fun k hk => h.block k (by omega) (fun e => by have e : pm ≤ k := e; omega)⟩
theorem only_at_ge {pm : Nat} {w w' : World} (h : Only (· = pm) w w') : Only (fun x => pm ≤ x) w w' := h.mono (fun k e => by have e : k = pm := e; omega)
/-- One byte more of body. -/
theorem PM.grow {pm limit g n cap : Nat} {p : Ps} {c : UInt8} {err : Value} {w w3 : World} (h : PM pm limit p err w) (hk : Only (fun k => p.bv.ownBlock = some k) w w3) (hO : Own w3 pm (.slice (some ⟨g, 0, none⟩) n cap) ((p.body ++ [c]).map u8v)) (hg : p.bv.ownBlock = some g ∨ w.heap.size ≤ g) :
    PM pm limit { p with body := p.body ++ [c], bv := .slice (some ⟨g, 0, none⟩) n cap } err (w3.setCell ⟨pm, 17, none⟩ (.slice (some ⟨g, 0, none⟩) n cap)) := by
  have hlt := h.lt
  obtain ⟨ao, m, cap', bv, hR, hn, hc, hc2, hE, hge, hOw, hbn⟩ := h.ex
  have hgp : g ≠ pm := by
    rcases hg with e | e
    · intro q; rw [q] at e; exact hbn.1 (by rw [hbn.2]; exact e)
    · omega
  have hlow : ∀ k, p.bv.ownBlock = some k → pm ≤ k := fun k e => own_block_ge hOw k (by rw [hbn.2]; exact e)
  have hb : Below pm w w3 := ⟨hk.os, hk.tape, hk.output, hk.size, fun k hkk => hk.block k (by omega) (fun e => by have := hlow k e; omega)⟩
  have hl3 : pm < w3.heap.size := Nat.lt_of_lt_of_le hlt hk.size
  have hR3 : Row w3 pm (encP limit (.slice ao m cap') bv err p) := hR.only (by simp [encP]) hk (fun e => hbn.1 (by rw [hbn.2]; exact e))
  have hset : Only (· = pm) w3 (w3.setCell ⟨pm, 17, none⟩ (.slice (some ⟨g, 0, none⟩) n cap)) := Only.set (S := (· = pm)) w3 17 _ rfl
  refine ⟨⟨ao, m, cap', .slice (some ⟨g, 0, none⟩) n cap, hR3.set 17 (.slice (some ⟨g, 0, none⟩) n cap) (by simp [encP]), hn, hc, hc2, (hE.keep hb hge).keep (only_keeps hset (Nat.le_refl _) hl3) hge, hge, ?_, ?_, rfl⟩, h.ok⟩
  · exact own_only' hO hset (fun q hq e => by
      have e : q = pm := e
      simp only [Value.ownBlock, Option.some.injEq] at hq
      omega)
  · intro e
    simp only [Value.ownBlock, Option.some.injEq] at e
    omega
theorem PM.c17 {pm limit : Nat} {p : Ps} {err : Value} {w : World} (h : PM pm limit p err w) : w.cell? ⟨pm, 17, none⟩ = some p.bv ∧ w.frozen? ⟨pm, 17, none⟩ = false ∧ Own w pm p.bv (p.body.map u8v) := by
  obtain ⟨ao, n, cap, bv, hR, hn, hc, hc2, hE, hge, hOw, hbn⟩ := h.ex
  rw [← hbn.2]
  exact ⟨hR.cell 17 _ rfl, hR.fro 17, hOw⟩
/-- A head is known to the program as it is to the document. -/
def TellsH (m : Mc) (hd : Hd) : Prop := m.headed = true ∧ hd.status = m.status ∧ hd.tag = m.tag ∧ (m.status = 206 → hd.first = frOf m ∧ hd.total = totOf m)
theorem TellsH.all {m : Mc} {hd : Hd} (h : TellsH m hd) (b : Bytes) (m' : Mc) (e1 : m'.headed = m.headed) (e2 : m'.status = m.status) (e3 : m'.tag = m.tag) (e4 : m'.body = b) (e5 : m'.span = m.span) : Tells m' hd b := by
  obtain ⟨h1, h2, h3, h4⟩ := h
  refine .inl ⟨by rw [e1]; exact h1, by rw [e2]; exact h2, by rw [e3]; exact h3, e4.symm, fun q => ?_⟩
  unfold frOf totOf at *
  rw [e2, e5]
  rw [e2] at q
  exact h4 q
theorem TellsH.same {m : Mc} {hd : Hd} (h : TellsH m hd) (m' : Mc) (e1 : m'.headed = m.headed) (e2 : m'.status = m.status) (e3 : m'.tag = m.tag) (e5 : m'.span = m.span) : TellsH m' hd := by
  obtain ⟨h1, h2, h3, h4⟩ := h
  refine ⟨by rw [e1]; exact h1, by rw [e2]; exact h2, by rw [e3]; exact h3, fun q => ?_⟩
  unfold frOf totOf at *
  rw [e2, e5]
  rw [e2] at q
  exact h4 q
/-- Behind the last byte of a counted piece. -/
def PassR (limit : Nat) (R : Res) (M : Mc) (W : Wire) : Prop := if M.at' = 10 then goOn limit { M with at' := 11 } W = R else R = ⟨done M, W.ticks⟩
/-- How pass ends. -/
def PassE (ad : Nat → Addr) (pm limit : Nat) (R : Res) (M : Mc) (n : Nat) (p : Ps) (w' : World) : Prop :=
  (∃ W b bv, PM pm limit { p with wire := W, body := b, bv := bv } .nilIface w' ∧ b.length = p.body.length + n ∧ PassR limit R { M with body := b, size := 0 } W) ∨
  (∃ tf vf W b bv, PM pm limit { p with wire := W, body := b, bv := bv } (.iface tf vf) w' ∧ Faulted ad pm R { p with wire := W, body := b, bv := bv } (.iface tf vf) w')
structure PSt (pm limit : Nat) (R : Res) (M : Mc) (n : Nat) (p : Ps) (w : World) (k : Nat) (b : Bytes) (bv : Value) (W : Wire) (wr : World) : Prop where
  mem : PM pm limit { p with wire := W, body := b, bv := bv } .nilIface wr
  len : b.length + k = p.body.length + n
  go : 0 < k → goOn limit { M with body := b, size := k } W = R
  fin : k = 0 → PassR limit R { M with body := b, size := 0 } W
  only : Only (fun x => pm ≤ x) w wr
theorem after_fin {limit : Nat} {R : Res} {M M' : Mc} {c : UInt8} {W : Wire} (h : After limit R M c W) (e : feed limit M c = done M') : R = ⟨done M', W.ticks⟩ := by
  unfold After at h
  rw [e] at h
  cases hd : done M' with
  | none => rw [hd] at h; exact h
  | some m' =>
    rw [hd] at h
    have h14 : m'.at' = 14 := by
      unfold done at hd
      split at hd
      · cases hd
      · injection hd with hd; rw [← hd]
    exact h.trans (goOn_end h14)
theorem pass_step {limit : Nat} {R : Res} {M : Mc} {k : Nat} {b : Bytes} {c : UInt8} {W : Wire} (ha : M.at' = 10 ∨ M.at' = 12) (hk : 0 < k) (h : After limit R { M with body := b, size := k } c W) :
    (0 < k - 1 → goOn limit { M with body := b ++ [c], size := k - 1 } W = R) ∧ (k - 1 = 0 → PassR limit R { M with body := b ++ [c], size := 0 } W) := by
  refine ⟨fun h1 => ?_, fun h0 => ?_⟩
  · unfold After at h
    rw [feed_pass (M := { M with body := b, size := k }) ha (by show 1 < k; omega)] at h
    exact h.symm
  · have hk1 : k = 1 := by omega
    subst hk1
    unfold PassR
    rcases ha with e | e
    · rw [if_pos (by exact e)]
      unfold After at h
      rw [feed_pass10 (M := { M with body := b, size := 1 }) e rfl] at h
      exact h.symm
    · rw [if_neg (by show ¬ M.at' = 10; omega)]
      exact after_fin (M' := { M with body := b ++ [c], size := 0 }) h (feed_pass12 (M := { M with body := b, size := 1 }) e rfl)
set_option maxHeartbeats 4000000 in
set_option maxRecDepth 100000 in
theorem pass_alive (pm limit : Nat) (R : Res) (M : Mc) (n : Nat) (p : Ps) (ad : Nat → Addr) (B : Nat) (w : World) (h : PM pm limit p .nilIface w) (hW : RepW ad B w) (hB : B ≤ pm) (ha : M.at' = 10 ∨ M.at' = 12) (hT : TellsH M p.hd) (hn : p.body.length + n ≤ 2000000) (hg : 0 < n → goOn limit { M with body := p.body, size := n } p.wire = R) (hf : n = 0 → PassR limit R { M with body := p.body, size := 0 } p.wire) :
    Calls Tryz.prog 29 #[.pointer (some ⟨pm, 0, none⟩), .int .i64 (n : Int)] w fun e w' => (e = .returned (.tuple #[]) ∧ PassE ad pm limit R M n p w') ∧ Only (fun x => pm ≤ x) w w' := by
  have hlt := h.lt
  obtain ⟨i0, hi, hz0, hz1, hz2⟩ := info_parts u8Info'
  have HS0 : Hid (PSt pm limit R M n p w n p.body p.bv p.wire w) := ⟨h, rfl, hg, hf, Only.refl _ _⟩
  have HW : Hid (RepW ad B w) := hW
  have HT : Hid (TellsH M p.hd) := hT
  have HA : Hid (M.at' = 10 ∨ M.at' = 12) := ha
  have hBw : B ≤ w.heap.size := by omega
  clear h hW hT hg hf ha
  go_enter Tryz.func29, Tryz.ntmps29
  go_wp2
  refine scope_fall (fun m l a' w' => ∃ (k : Nat) (b : Bytes) (bv : Value) (W : Wire) (cz z : Int), (∃ f : Nat → Value, a' = { tmps := #[.pointer (some ⟨pm, 0, none⟩), .int .i64 z, undef, undef, .int .u8 cz, f 5, f 6, f 7, f 8, f 9, f 10, f 11, f 12, f 13, f 14, f 15, f 16, f 17, f 18, f 19, f 20, f 21, f 22, f 23, f 24, f 25], defers := [] }) ∧ l = 0 ∧ m = k ∧ z = (k : Int) ∧ Hid (PSt pm limit R M n p w k b bv W w')) ?_ ?_
  · rintro k ih l a' wr ⟨k', b, bv, W, cz, z, ⟨f, rfl⟩, rfl, rfl, rfl, HS⟩
    clear ih HS0
    refine ⟨_, rfl, ?_⟩
    by_cases hk0 : k = 0
    · have tk : ((k : Int) == 0) = true := by rw [beq_iff_eq]; omega
      have HF : Hid (PassE ad pm limit R M n p wr) := .inl ⟨W, b, bv, HS.out.mem, by have := HS.out.len; omega, HS.out.fin hk0⟩
      have HO : Hid (Only (fun x => pm ≤ x) w wr) := HS.out.only
      clear hk0
      go_wp2
      simp only [jumps]
      first | go_end0 | refine bodyPost_ret (results_none rfl _ _ _) rfl ?_
      exact ⟨⟨rfl, HF.out⟩, HO.out⟩
    · have tk : ((k : Int) == 0) = false := by rw [beq_eq_false_iff_ne]; omega
      have hk1 : 0 < k := by omega
      have hlen := HS.out.len
      have hWr : RepW ad B wr := HW.out.keep (only_ge_keeps HS.out.only hB hBw)
      have HC := take_alive pm limit R { M with body := b, size := k } { p with wire := W, body := b, bv := bv } ad B wr HS.out.mem hWr hB (HS.out.go hk1) (by rcases HA.out with e | e <;> (show M.at' ≠ 14; omega)) (by rcases HA.out with e | e <;> (show M.at' ≠ 13; omega))
      clear hk0 hWr
      go_wp2_with fail
      refine HC.mono ?_
      rintro e w1 ⟨hE, hO1⟩
      have HO1 : Hid (Only (fun x => pm ≤ x) w w1) := HS.out.only.trans (only_at_ge hO1)
      clear hO1 HC
      rcases hE with ⟨c, W', rfl, hP1, hA1⟩ | ⟨err, W', rfl, hP1, hF1, hR1⟩
      · obtain ⟨c18, f18⟩ := hP1.c18
        obtain ⟨c17, f17, hOw⟩ := hP1.c17
        simp only [] at c17 hOw
        obtain ⟨s1, s2⟩ := pass_step HA.out hk1 hA1
        have HOw : Hid (Own w1 pm bv (b.map u8v)) := hOw
        have HP1 : Hid (PM pm limit { p with wire := W', body := b, bv := bv } .nilIface w1) := hP1
        have HLl : Hid ((b.map u8v).length = b.length) := by show _ = _; simp
        have HS1 : Hid (0 < k - 1 → goOn limit { M with body := b ++ [c], size := k - 1 } W' = R) := s1
        have HS2 : Hid (k - 1 = 0 → PassR limit R { M with body := b ++ [c], size := 0 } W') := s2
        obtain ⟨ao, vn, vc, rfl⟩ := own_slice' hOw
        have hl1 : pm < w1.heap.size := Nat.lt_of_lt_of_le hlt HO1.out.size
        clear hP1 hA1 s1 s2 hOw
        go_wp2_with (at_builtin; refine wpList_append_T rfl _ _ 48 rfl pm 5 i0 (.int .u8 0) 1 Tryz.underlying48 hi hz0 hz1 hz2 rfl _ _ rfl (own_alloc' HOw.out _) ⟨w1.heap.size, 0, none⟩ 1 1 [.int .u8 c.toNat] rfl rfl (one_cell' _ _ _) (fun u hu => by simp at hu; subst hu; rfl) (by decide) (by rw [HLl.out]; unfold maxLen; omega) (by rw [HLl.out]; omega) (by simp; omega) ?_)
        intro g cap w3 hO3 hT3
        have hk3 : Only (fun q => (Value.slice ao vn vc).ownBlock = some q) w1 w3 := (Only.alloc _ _ _).trans hT3.1
        have hg3 : (Value.slice ao vn vc).ownBlock = some g ∨ w1.heap.size ≤ g := by
          rcases hT3.2 g rfl with q | q
          · exact .inl q
          · right; simp at q; omega
        have hOw3 : Own w3 pm (.slice (some ⟨g, 0, none⟩) (b.length + 1) cap) ((b ++ [c]).map u8v) := by
          have e : (b ++ [c]).map u8v = b.map u8v ++ [.int .u8 c.toNat] := by simp [u8v]
          rw [e]; exact hO3
        have hPg := HP1.out.grow (c := c) hk3 hOw3 hg3
        have hge : ∀ q, (Value.slice ao vn vc).ownBlock = some q → pm ≤ q := fun q hq => own_block_ge HOw.out q hq
        have hne3 : (Value.slice ao vn vc).ownBlock ≠ some pm := by
          obtain ⟨_, _, _, bv', _, _, _, _, _, _, _, hbn⟩ := HP1.out.ex
          have q := hbn.1
          rw [hbn.2] at q
          exact q
        have c17' : w3.cell? ⟨pm, 17, none⟩ = some (.slice ao vn vc) := by rw [hk3.cell (p := ⟨pm, 17, none⟩) hl1 hne3]; exact c17
        have f17' : w3.frozen? ⟨pm, 17, none⟩ = false := by
          obtain ⟨_, _, _, bv', hR', _⟩ := HP1.out.ex
          exact (hR'.only (by simp [encP]) hk3 hne3).fro 17
        have HS3 : Hid (PSt pm limit R M n p w (k - 1) (b ++ [c]) (.slice (some ⟨g, 0, none⟩) (b.length + 1) cap) W' (w3.setCell ⟨pm, 17, none⟩ (.slice (some ⟨g, 0, none⟩) (b.length + 1) cap))) := by
          refine ⟨hPg, by simp; omega, HS1.out, HS2.out, (HO1.out.trans (hk3.mono hge)).trans (Only.set (S := fun x => pm ≤ x) _ 17 _ (Nat.le_refl _))⟩
        clear hO3 hT3 hk3 hg3 hOw3 hPg hge hne3 c17 f17
        go_wp2
        go_step3
        try simp only [Exit.jump]
        exact ⟨k - 1, by omega, k - 1, b ++ [c], _, W', _, _, mkF rfl, rfl, rfl, by omega, HS3⟩
      · obtain ⟨c18, f18⟩ := hP1.c18
        obtain ⟨f', rfl, q⟩ := hF1
        have HF : Hid (PassE ad pm limit R M n p w1) := .inr ⟨_, _, W', b, bv, hP1, .inr ⟨⟨f', rfl, q⟩, _, hR1, (by rcases HA.out with e | e <;> (show M.at' ≠ 14; omega)), HT.out.all b _ rfl rfl rfl rfl rfl⟩⟩
        clear hP1 q hR1
        go_wp2
        simp only [jumps]
        first | go_end0 | refine bodyPost_ret (results_none rfl _ _ _) rfl ?_
        exact ⟨⟨rfl, HF.out⟩, HO1.out⟩
  · intro all
    go_wp2_with fail
    go_step3
    rename_i hKK
    exact hKK _ _ (fall2 (all n 0 _ _ ⟨n, _, _, _, _, _, mkF rfl, rfl, rfl, rfl, HS0⟩) rfl fun k l' a' w' _ hJ => ⟨k, hJ⟩)
end Go.Proofs.YtmodongnganbfaaGreatDoor.Rep
