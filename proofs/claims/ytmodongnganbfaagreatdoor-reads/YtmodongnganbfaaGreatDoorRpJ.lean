/- Replies: the program's startLine. -/
import Derived.Test.YtmodongnganbfaaGreatDoorRpIToRpDead
namespace Go.Proofs.YtmodongnganbfaaGreatDoor.Rep
open Go.RowKit Go.Proofs.YtmodongnganbfaaGreatDoor Go.Proofs.YtmodongnganbfaaGreatDoor.Sha Go.Proofs.YtmodongnganbfaaGreatDoor.Inf
theorem feed_first {limit : Nat} {M : Mc} {c : UInt8} (ha : M.at' ≤ 2) (hu : M.used < 400) : feed limit M c = first { M with used := M.used + 1 } c := by
  have hc : counts M = true := by unfold counts; have h4 : (M.at' == 4) = false := by rw [beq_eq_false_iff_ne]; omega
                                  simp [h4]; omega
  unfold feed
  rw [if_neg (by omega)]
  simp only [hc, if_true]
  rw [if_pos ha]
/-- The document's machine within the protocol. -/
def pmm (i : Nat) : Mc := { Mc.new with start := i, used := i }
/-- The document's machine within the status. -/
def dmm (k st : Nat) : Mc := { Mc.new with at' := if k = 3 then 2 else 1, start := k, status := st, used := 9 + k }
theorem tells_new {p : Ps} (h1 : p.hd = Hd.none) (h2 : p.body = []) {M : Mc} (h : M.headed = false) : Tells M p.hd p.body := .inr ⟨h, h1, h2⟩
theorem chain_protocol {limit : Nat} {p : Ps} (h1 : p.hd = Hd.none) (h2 : p.body = []) (hr : p.room = 400) : Chain limit p protocol pmm where
  cnt := fun i _ => rfl
  used := fun i _ => by show i + p.room = 400 + i; omega
  tells := fun i _ => tells_new h1 h2 rfl
  no := fun i c hc hi => by
    have hi : i < 9 := hi
    rw [feed_first (M := pmm i) (Nat.zero_le 2) (by show i < 400; omega)]
    show (if (0 : Nat) = 0 then (if protocol[i]? = some c then _ else none) else _) = _
    rw [if_pos rfl, if_neg hc]
  yes := fun i c hc hi _ => by
    have hi : i + 1 < 9 := hi
    rw [feed_first (M := pmm i) (Nat.zero_le 2) (by show i < 400; omega)]
    show (if (0 : Nat) = 0 then (if protocol[i]? = some c then some (if i + 1 = 9 then _ else _) else none) else _) = _
    rw [if_pos rfl, if_pos hc, if_neg (by omega)]
    rfl
theorem feed_protocol (limit : Nat) : feed limit (pmm 8) 32 = some (dmm 0 0) := by
  rw [feed_first (M := pmm 8) (by decide) (by decide)]
  rfl
def okDigit (k : Nat) (c : UInt8) : Bool := isDigit c && !(k == 0 && (decide (c.toNat < 49) || decide (53 < c.toNat)))
theorem feed_digit {limit k st : Nat} (c : UInt8) (hk : k < 3) : feed limit (dmm k st) c = if okDigit k c then some (dmm (k + 1) (10 * st + (c.toNat - 48))) else none := by
  have ha : (dmm k st).at' = 1 := by show (if k = 3 then 2 else 1) = 1; rw [if_neg (by omega)]
  rw [feed_first (by omega) (by show 9 + k < 400; omega)]
  unfold first
  rw [if_neg (by show ¬ (dmm k st).at' = 0; omega), if_pos ha]
  show (if okDigit k c = true then _ else none) = _
  by_cases h : okDigit k c = true
  · rw [if_pos h, if_pos h]
    unfold dmm
    by_cases h3 : k + 1 = 3
    · rw [if_pos h3]; have : k = 2 := by omega
      subst this; rfl
    · rw [if_neg h3, if_neg h3, if_neg (by omega)]; rfl
  · rw [if_neg h, if_neg h]
theorem chain_blank {limit st : Nat} {p : Ps} (h1 : p.hd = Hd.none) (h2 : p.body = []) (hr : p.room = 388) : Chain limit p [32] (fun _ => dmm 3 st) where
  cnt := fun i _ => rfl
  used := fun i hi => by simp at hi; subst hi; show 12 + p.room = 400 + 0; omega
  tells := fun i _ => tells_new h1 h2 rfl
  no := fun i c hc hi => by
    rw [feed_first (M := dmm 3 st) (Nat.le_refl 2) (by show 12 < 400; omega)]
    have : c ≠ 32 := by simp at hi; subst hi; intro e; exact hc (by rw [e]; rfl)
    show (if (2 : Nat) = 0 then _ else if (2 : Nat) = 1 then _ else if c = 32 then _ else none) = _
    rw [if_neg (by decide), if_neg (by decide), if_neg this]
  yes := fun i c _ hi _ => by simp at hi
theorem feed_blank (limit st : Nat) : feed limit (dmm 3 st) 32 = some { Mc.new with at' := 3, start := 3, status := st, used := 13 } := by
  rw [feed_first (M := dmm 3 st) (Nat.le_refl 2) (by show 12 < 400; omega)]
  rfl
/-- The document's machine behind the first line. -/
def fmm (st u : Nat) : Mc := { Mc.new with at' := 5, thn := 5, start := 3, status := st, used := u }
/-- How startLine ends. -/
def StartE (ad : Nat → Addr) (pm limit : Nat) (R : Res) (p : Ps) (e : Ending) (w' : World) : Prop :=
  (∃ (st u r : Nat) (W : Wire), e = .returned (.int .i64 (st : Int)) ∧ 100 ≤ st ∧ st ≤ 599 ∧ u + r = 400 ∧ PM pm limit { p with wire := W, room := r } .nilIface w' ∧ goOn limit (fmm st u) W = R) ∨
  (∃ (x : Int) (tf : TypeId) (vf : Value) (W : Wire) (r : Nat), e = .returned (.int .i64 x) ∧ PM pm limit { p with wire := W, room := r } (.iface tf vf) w' ∧ Faulted ad pm R { p with wire := W, room := r } (.iface tf vf) w')
structure DSt (pm limit : Nat) (R : Res) (p : Ps) (w : World) (k st : Nat) (c : UInt8) (W : Wire) (wr : World) : Prop where
  mem : PM pm limit { p with wire := W, room := 390 - k } .nilIface wr
  k2 : k ≤ 2
  c1 : 48 ≤ c.toNat
  c2 : c.toNat ≤ 57
  s0 : k = 0 → st = 0 ∧ 49 ≤ c.toNat ∧ c.toNat ≤ 53
  s1 : k = 1 → 1 ≤ st ∧ st ≤ 5
  s2 : k = 2 → 10 ≤ st ∧ st ≤ 59
  go : goOn limit (dmm (k + 1) (10 * st + (c.toNat - 48))) W = R
  only : Only (· = pm) w wr
structure WSt (pm limit : Nat) (R : Res) (p : Ps) (w : World) (st : Nat) (W : Wire) (wr : World) : Prop where
  mem : PM pm limit { p with wire := W, room := 388 } .nilIface wr
  s1 : 100 ≤ st
  s2 : st ≤ 599
  go : goOn limit (dmm 3 st) W = R
  only : Only (· = pm) w wr
/-- At the label wrong: broken now, or a fault ahead. -/
def WrongSt (ad : Nat → Addr) (pm limit : Nat) (R : Res) (p : Ps) (w : World) (W : Wire) (r : Nat) (wr : World) : Prop :=
  Only (· = pm) w wr ∧ ((PM pm limit { p with wire := W, room := r } .nilIface wr ∧ R = ⟨none, W.ticks⟩) ∨
   (∃ tf vf, PM pm limit { p with wire := W, room := r } (.iface tf vf) wr ∧ Faulted ad pm R { p with wire := W, room := r } (.iface tf vf) wr))
theorem isDigit_iff {c : UInt8} (h : isDigit c = true) : 48 ≤ c.toNat ∧ c.toNat ≤ 57 := by
  unfold isDigit at h; simp at h; exact h
set_option maxHeartbeats 4000000 in
set_option maxRecDepth 100000 in
theorem startLine_alive (pm limit : Nat) (R : Res) (p : Ps) (ad : Nat → Addr) (B : Nat) (w : World) (h : PM pm limit p .nilIface w) (hW : RepW ad B w) (hB : B ≤ pm) (h1 : p.hd = Hd.none) (h2 : p.body = []) (hr : p.room = 400) (hR : goOn limit Mc.new p.wire = R) :
    Calls Tryz.prog 40 #[.pointer (some ⟨pm, 0, none⟩)] w fun e w' => StartE ad pm limit R p e w' ∧ Only (· = pm) w w' := by
  have hlt := h.lt
  have HW : Hid (RepW ad B w) := hW
  have HC0 := want_alive pm limit R p ad B ⟨#[72, 84, 84, 80, 47, 49, 46, 49, 32]⟩ pmm w h hW hB (by decide) (by decide) (by decide) (chain_protocol h1 h2 hr) hR
  clear h hW hR
  go_enter Tryz.func40, Tryz.ntmps40
  go_wp2
  refine scope_fall (fun n l a' w' => ∃ (W : Wire) (cz sz : Int), (∃ f : Nat → Value, a' = { tmps := #[.pointer (some ⟨pm, 0, none⟩), undef, .int .i64 0, .int .u8 cz, .int .i64 sz, f 5, f 6, f 7, f 8, f 9, f 10, f 11, f 12, f 13, f 14, f 15, f 16, f 17, f 18, f 19, f 20, f 21, f 22, f 23, f 24, f 25, f 26, f 27, f 28, f 29, f 30, f 31, f 32, f 33, f 34], defers := [] }) ∧
    ((l = 1 ∧ ∃ (k st : Nat) (c : UInt8), n = 5 - k ∧ (cz = (c.toNat : Int) ∧ sz = (st : Int)) ∧ Hid (DSt pm limit R p w k st c W w')) ∨ (l = 0 ∧ n = 0 ∧ ∃ r, Hid (WrongSt ad pm limit R p w W r w')) ∨ (l = 2 ∧ n = 1 ∧ ∃ st : Nat, sz = (st : Int) ∧ Hid (WSt pm limit R p w st W w')))) ?_ ?_
  · rintro n ih l a' wr ⟨W, cz, sz, ⟨f, rfl⟩, hL⟩
    clear HC0
    rcases hL with ⟨rfl, k, st, c, rfl, ⟨rfl, rfl⟩, HS⟩ | ⟨rfl, rfl, r, HS⟩ | ⟨rfl, rfl, st, rfl, HS⟩
    · refine ⟨_, rfl, ?_⟩
      have hWr : RepW ad B wr := HW.out.keep (only_keeps HS.out.only hB hlt)
      have hk2 := HS.out.k2
      have hc1 := HS.out.c1
      have hc2 := HS.out.c2
      have hc1' : (48 : Int) ≤ (c.toNat : Int) := by omega
      have hc2' : (c.toNat : Int) ≤ 57 := by omega
      have hs1 : st ≤ 59 := by
        rcases (show k = 0 ∨ k = 1 ∨ k = 2 by omega) with e | e | e
        · have := HS.out.s0 e; omega
        · have := HS.out.s1 e; omega
        · have := HS.out.s2 e; omega
      by_cases hk : k = 2
      · have hst := HS.out.s2 hk
        have tge : (100 : Int) ≤ (st : Int) * 10 + ((c.toNat : Int) - 48) := by omega
        have HS1 : Hid (WSt pm limit R p w (10 * st + (c.toNat - 48)) W wr) := by
          have q := HS.out.mem
          have g := HS.out.go
          rw [hk] at q g
          exact ⟨q, by omega, by omega, g, HS.out.only⟩
        clear hWr
        go_wp2
        go_step3
        try simp only [Exit.jump]
        exact ⟨1, by omega, W, _, _, mkF rfl, .inr (.inr ⟨rfl, rfl, 10 * st + (c.toNat - 48), by omega, HS1⟩)⟩
      · have hst : st ≤ 5 := by
          rcases (show k = 0 ∨ k = 1 by omega) with e | e
          · have := HS.out.s0 e; omega
          · have := HS.out.s1 e; omega
        have tge : ¬ (100 : Int) ≤ (st : Int) * 10 + ((c.toNat : Int) - 48) := by omega
        have HC := takeOfLine_alive pm limit R (dmm (k + 1) (10 * st + (c.toNat - 48))) { p with wire := W, room := 390 - k } ad B wr HS.out.mem hWr hB HS.out.go (by unfold counts dmm; rw [if_neg (by omega)]; rfl) (by show 9 + (k + 1) + (390 - k) = 400; omega) (tells_new h1 h2 rfl)
        clear hWr
        go_wp2_with fail
        refine HC.mono ?_
        rintro e w1 ⟨hT1, hO1⟩
        have HO1 : Hid (Only (· = pm) w w1) := HS.out.only.trans hO1
        rcases hT1 with ⟨c', W', rfl, hr0, hP1, hA⟩ | ⟨tf, vf, W', rfl, hP1, hF1⟩
        · unfold After at hA
          rw [feed_digit c' (by omega)] at hA
          have hok : okDigit (k + 1) c' = isDigit c' := by unfold okDigit; simp
          rw [hok] at hA
          have HIt := isDigit_n c'.toNat w1 c'.toNat_lt
          cases hdg : isDigit c' with
          | true =>
            rw [hdg, if_pos rfl] at hA
            have HIt : Calls Tryz.prog 56 #[.int .u8 c'.toNat] w1 fun e w' => e = .returned (.bool true) ∧ w' = w1 := by
              have q := HIt; rw [show digN c'.toNat = isDigit c' from rfl, hdg] at q; exact q
            have hd12 := isDigit_iff hdg
            have HS1 : Hid (DSt pm limit R p w (k + 1) (10 * st + (c.toNat - 48)) c' W' w1) := by
              refine ⟨?_, by omega, hd12.1, hd12.2, fun e => by omega, fun e => ?_, fun e => ?_, hA.symm, HO1.out⟩
              · have q := hP1
                simp only [] at q
                rw [show 390 - k - 1 = 390 - (k + 1) by omega] at q
                exact q
              · have := HS.out.s0 (by omega); omega
              · have := HS.out.s1 (by omega); omega
            clear hP1 hA hO1 HC hdg hd12
            go_wp2_with fail
            refine HIt.mono ?_
            rintro e w2 ⟨rfl, rfl⟩
            go_wp2
            go_step3
            try simp only [Exit.jump]
            exact ⟨5 - (k + 1), by omega, W', _, _, mkF rfl, .inl ⟨rfl, k + 1, 10 * st + (c.toNat - 48), c', rfl, ⟨rfl, by omega⟩, HS1⟩⟩
          | false =>
            rw [hdg, if_neg (by decide)] at hA
            have HIt : Calls Tryz.prog 56 #[.int .u8 c'.toNat] w1 fun e w' => e = .returned (.bool false) ∧ w' = w1 := by
              have q := HIt; rw [show digN c'.toNat = isDigit c' from rfl, hdg] at q; exact q
            have HS1 : Hid (WrongSt ad pm limit R p w W' (390 - k - 1) w1) := ⟨HO1.out, .inl ⟨hP1, hA⟩⟩
            clear hP1 hA hO1 HC hdg
            go_wp2_with fail
            refine HIt.mono ?_
            rintro e w2 ⟨rfl, rfl⟩
            go_wp2_with fail
            go_step3
            rename_i hKK
            exact hKK _ _ (fall2 (ih 0 0 _ _ (by omega) ⟨W', _, _, mkF rfl, .inr (.inl ⟨rfl, rfl, _, HS1⟩)⟩) rfl fun k' l' a' w' hk' hJ => ⟨k', by omega, hJ⟩)
        · have HIt : Calls Tryz.prog 56 #[.int .u8 0] w1 fun e w' => e = .returned (.bool false) ∧ w' = w1 := isDigit_n 0 w1 (by decide)
          have HS1 : Hid (WrongSt ad pm limit R p w W' (390 - k) w1) := ⟨HO1.out, .inr ⟨tf, vf, hP1, hF1⟩⟩
          clear hP1 hF1 hO1 HC
          go_wp2_with fail
          refine HIt.mono ?_
          rintro e w2 ⟨rfl, rfl⟩
          go_wp2_with fail
          go_step3
          rename_i hKK
          exact hKK _ _ (fall2 (ih 0 0 _ _ (by omega) ⟨W', _, _, mkF rfl, .inr (.inl ⟨rfl, rfl, _, HS1⟩)⟩) rfl fun k' l' a' w' hk' hJ => ⟨k', by omega, hJ⟩)
    · refine ⟨_, rfl, ?_⟩
      have hWr : RepW ad B wr := HW.out.keep (only_keeps HS.out.1 hB hlt)
      have gb := hWr.byte
      rcases HS.out.2 with ⟨hP, hRn⟩ | ⟨tf, vf, hP, hF⟩
      · have HC2 := broken_first pm limit _ ad B (.pointer (some (ad 6))) 182 wr hP hWr
        clear hWr
        go_wp2_with fail
        refine HC2.mono ?_
        rintro e w3 ⟨rfl, ⟨err, hP3, hF3⟩, hO3⟩
        obtain ⟨f', rfl, q⟩ := hF3
        have HF : Hid (StartE ad pm limit R p (.returned (.int .i64 0)) w3) := .inr ⟨_, _, _, W, _, rfl, hP3, .inl ⟨⟨f', rfl, q⟩, hRn⟩⟩
        have HO3 : Hid (Only (· = pm) w w3) := HS.out.1.trans hO3
        clear hP3 q hO3 HC2
        go_wp2
        simp only [jumps]
        go_ret
        exact ⟨HF.out, HO3.out⟩
      · have HC2 := broken_later pm limit _ ad B tf vf (.iface 182 (.pointer (some (ad 6)))) wr hP hWr
        have HF : Hid (StartE ad pm limit R p (.returned (.int .i64 0)) wr) := .inr ⟨_, tf, vf, W, _, rfl, hP, hF⟩
        clear hWr
        go_wp2_with fail
        refine HC2.mono ?_
        rintro e w3 ⟨rfl, rfl⟩
        go_wp2
        simp only [jumps]
        go_ret
        exact ⟨HF.out, HS.out.1⟩
    · refine ⟨_, rfl, ?_⟩
      have hWr : RepW ad B wr := HW.out.keep (only_keeps HS.out.only hB hlt)
      have HC0 := want_alive pm limit R { p with wire := W, room := 388 } ad B ⟨#[32]⟩ (fun _ => dmm 3 st) wr HS.out.mem hWr hB (by decide) (by decide) (by decide) (chain_blank h1 h2 rfl) HS.out.go
      clear hWr
      go_wp2_with fail
      refine HC0.mono ?_
      rintro e w1 ⟨⟨rfl, hE1⟩, hO1⟩
      have HO1 : Hid (Only (· = pm) w w1) := HS.out.only.trans hO1
      have hW1 : RepW ad B w1 := HW.out.keep (only_keeps HO1.out hB hlt)
      clear HC0 hO1
      rcases hE1 with ⟨W1, d1, hl1, hP1, hd1, hA1⟩ | ⟨tf, vf, W1, r1, hP1, hF1⟩
      · have e : d1 = 32 := (Option.some.inj hd1).symm
        subst e
        have hA1 : After limit R (dmm 3 st) 32 W1 := hA1
        unfold After at hA1
        rw [feed_blank] at hA1
        have hP1 : PM pm limit { p with wire := W1, room := 387 } .nilIface w1 := hP1
        have HC := restOfLine_alive pm limit R { p with wire := W1, room := 387 } ad B _ _ w1 hP1 hW1 hB (rest_plain (M := { Mc.new with at' := 3, start := 3, status := st, used := 13 }) (th := 5) (.inl ⟨rfl, rfl⟩) (by show 13 + 387 = 400; rfl) (tells_new h1 h2 rfl)) hA1.symm (by show 387 ≤ 400; omega)
        clear hP1 hW1 hA1 hd1
        go_wp2_with fail
        refine HC.mono ?_
        rintro e w3 ⟨hE3, hO3⟩
        have HO3 : Hid (Only (· = pm) w w3) := HO1.out.trans hO3
        have HF : Hid (StartE ad pm limit R p (.returned (.int .i64 (st : Int))) w3) := by
          rcases hE3 with ⟨L, W3, _, hl3, hP3, hA3, _⟩ | ⟨s, tf, vf, W3, r3, _, _, hP3, hF3⟩
          · have hl3 : L.length + 2 ≤ 387 := hl3
            refine .inl ⟨st, 13 + L.length + 1 + 1, 387 - L.length - 2, W3, rfl, HS.out.s1, HS.out.s2, by omega, hP3, ?_⟩
            unfold After at hA3
            have hf : feed limit { Mc.new with at' := 4, thn := 5, start := 3, status := st, used := 13 + L.length + 1 } 10 = some (fmm st (13 + L.length + 1 + 1)) := by
              unfold feed
              rw [if_neg (by intro h; have : 400 ≤ 13 + L.length + 1 := h.2; omega)]
              rfl
            have hA3 : R = match feed limit { Mc.new with at' := 4, thn := 5, start := 3, status := st, used := 13 + L.length + 1 } 10 with | none => ⟨none, W3.ticks⟩ | some m' => goOn limit m' W3 := hA3
            rw [hf] at hA3
            exact hA3.symm
          · exact .inr ⟨_, tf, vf, W3, r3, rfl, hP3, hF3⟩
        have hst : ∃ sx, e = .returned (.string sx) := by
          rcases hE3 with ⟨L, W3, h, _⟩ | ⟨s, tf, vf, W3, r3, h, _⟩
          · exact ⟨_, h⟩
          · exact ⟨_, h⟩
        obtain ⟨sx, rfl⟩ := hst
        clear hE3 hO3 HC
        go_wp2
        simp only [jumps]
        go_ret
        exact ⟨HF.out, HO3.out⟩
      · have HC := restOfLine_dead pm limit { p with wire := W1, room := r1 } ad B tf vf w1 hP1 hW1
        have HF : Hid (StartE ad pm limit R p (.returned (.int .i64 (st : Int))) w1) := .inr ⟨_, tf, vf, W1, r1, rfl, hP1, hF1⟩
        clear hP1 hF1 hW1
        go_wp2_with fail
        refine HC.mono ?_
        rintro e w3 ⟨⟨sx, rfl⟩, rfl⟩
        go_wp2
        simp only [jumps]
        go_ret
        exact ⟨HF.out, HO1.out⟩
  · intro all
    go_wp2_with fail
    refine HC0.mono ?_
    rintro e w1 ⟨⟨rfl, hE1⟩, hO1⟩
    have HO1 : Hid (Only (· = pm) w w1) := hO1
    have hW1 : RepW ad B w1 := HW.out.keep (only_keeps hO1 hB hlt)
    clear HC0
    rcases hE1 with ⟨W1, d1, hl1, hP1, hd1, hA1⟩ | ⟨tf, vf, W1, r1, hP1, hF1⟩
    · have e : d1 = 32 := (Option.some.inj hd1).symm
      subst e
      have hA1 : After limit R (pmm 8) 32 W1 := hA1
      unfold After at hA1
      rw [feed_protocol] at hA1
      have HC := takeOfLine_alive pm limit R (dmm 0 0) _ ad B w1 hP1 hW1 hB hA1.symm rfl (by show 9 + (p.room - 9) = 400; omega) (tells_new h1 h2 rfl)
      clear hP1 hW1 hO1 hA1 hd1
      go_wp2_with fail
      refine HC.mono ?_
      rintro e w2 ⟨hT2, hO2⟩
      have HO2 : Hid (Only (· = pm) w w2) := HO1.out.trans hO2
      rcases hT2 with ⟨c, W2, rfl, hr2, hP2, hA2⟩ | ⟨tf, vf, W2, rfl, hP2, hF2⟩
      · unfold After at hA2
        rw [feed_digit c (by decide)] at hA2
        by_cases hc1 : c.toNat < 49
        · have t1 : (c.toNat : Int) < 49 := by omega
          rw [if_neg (by unfold okDigit; simp [hc1])] at hA2
          have HS1 : Hid (WrongSt ad pm limit R p w W2 _ w2) := ⟨HO2.out, .inl ⟨hP2, hA2⟩⟩
          clear hP2 hA2 hO2 HC hc1
          go_wp2
          go_step3
          try simp only [Exit.jump]
          exact ⟨0, W2, _, _, mkF rfl, .inr (.inl ⟨rfl, rfl, _, HS1⟩)⟩
        · have t1 : ¬ (c.toNat : Int) < 49 := by omega
          by_cases hc2 : 53 < c.toNat
          · have t2 : (53 : Int) < (c.toNat : Int) := by omega
            rw [if_neg (by unfold okDigit; simp [hc2])] at hA2
            have HS1 : Hid (WrongSt ad pm limit R p w W2 _ w2) := ⟨HO2.out, .inl ⟨hP2, hA2⟩⟩
            clear hP2 hA2 hO2 HC hc1 hc2
            go_wp2
            go_step3
            try simp only [Exit.jump]
            exact ⟨0, W2, _, _, mkF rfl, .inr (.inl ⟨rfl, rfl, _, HS1⟩)⟩
          · have t2 : ¬ (53 : Int) < (c.toNat : Int) := by omega
            rw [if_pos (by unfold okDigit isDigit; simp [hc1, hc2]; omega)] at hA2
            have HS1 : Hid (DSt pm limit R p w 0 0 c W2 w2) := by
              refine ⟨?_, by decide, by omega, by omega, fun _ => ⟨rfl, by omega, by omega⟩, fun e => by omega, fun e => by omega, hA2.symm, HO2.out⟩
              have q := hP2
              simp only [] at q
              rw [show p.room - (ByteArray.mk #[72, 84, 84, 80, 47, 49, 46, 49, 32]).data.toList.length - 1 = 390 - 0 by rw [hr]; rfl] at q
              exact q
            clear hP2 hA2 hO2 HC
            go_wp2_with fail
            go_step3
            rename_i hKK
            exact hKK _ _ (fall2 (all 5 1 _ _ ⟨W2, _, _, mkF rfl, .inl ⟨rfl, 0, 0, c, rfl, ⟨rfl, rfl⟩, HS1⟩⟩) rfl fun k l' a' w' _ hJ => ⟨k, hJ⟩)
      · have HS1 : Hid (WrongSt ad pm limit R p w W2 _ w2) := ⟨HO2.out, .inr ⟨tf, vf, hP2, hF2⟩⟩
        clear hP2 hF2 hO2 HC
        go_wp2
        go_step3
        try simp only [Exit.jump]
        exact ⟨0, W2, _, _, mkF rfl, .inr (.inl ⟨rfl, rfl, _, HS1⟩)⟩
    · have HC := takeOfLine_dead pm limit _ tf vf w1 hP1
      have HS1 : Hid (WrongSt ad pm limit R p w W1 r1 w1) := ⟨HO1.out, .inr ⟨tf, vf, hP1, hF1⟩⟩
      clear hP1 hF1 hO1 hW1
      go_wp2_with fail
      refine HC.mono ?_
      rintro e w2 ⟨rfl, rfl⟩
      go_wp2
      go_step3
      try simp only [Exit.jump]
      exact ⟨0, W1, _, _, mkF rfl, .inr (.inl ⟨rfl, rfl, _, HS1⟩)⟩
end Go.Proofs.YtmodongnganbfaaGreatDoor.Rep
