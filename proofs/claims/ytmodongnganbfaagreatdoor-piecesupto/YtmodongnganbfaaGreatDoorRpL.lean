/- Replies: the program's lines. -/
import Derived.Test.YtmodongnganbfaaGreatDoorRpK
namespace Go.Proofs.YtmodongnganbfaaGreatDoor.Rep
open Go.RowKit Go.Proofs.YtmodongnganbfaaGreatDoor Go.Proofs.YtmodongnganbfaaGreatDoor.Sha Go.Proofs.YtmodongnganbfaaGreatDoor.Inf
def goodF (fs : List (Bytes × Bytes)) : Prop := ∀ f ∈ fs, (∀ c ∈ f.1, isNameByte c = true) ∧ (∀ c ∈ f.2, isText c = true) ∧ f.1.length ≤ 400 ∧ f.2.length ≤ 400
/-- The fields so far. -/
structure FSt (pm limit : Nat) (p : Ps) (w : World) (fs : List (Bytes × Bytes)) (fv : Value) (r : Nat) (W : Wire) (wr : World) : Prop where
  mem : PM pm limit { p with wire := W, room := r } .nilIface wr
  row : wr.ownsRow w.heap.size 88 2 fv fs.length (fs.flatMap fcells)
  good : goodF fs
  cnt : fs.length + r ≤ 400
  only : Only (· = pm) w wr
  nil : ∀ g, fv.ownBlock = some g → fs ≠ []
/-- Ahead of a line. -/
structure LSt (pm limit : Nat) (R : Res) (m0 : Mc) (p : Ps) (w : World) (fs : List (Bytes × Bytes)) (fv : Value) (r : Nat) (W : Wire) (wr : World) : Prop where
  f : FSt pm limit p w fs fv r W wr
  go : ∃ th u nm vl, u + r = 400 ∧ goOn limit (lmm m0 5 th u nm vl fs) W = R
/-- Behind the last line's CR. -/
structure TSt (pm limit : Nat) (R : Res) (m0 : Mc) (p : Ps) (w : World) (fs : List (Bytes × Bytes)) (fv : Value) (r : Nat) (W : Wire) (wr : World) : Prop where
  f : FSt pm limit p w fs fv r W wr
  go : ∃ u nm vl, u + r = 400 ∧ goOn limit (lmm m0 4 14 u nm vl fs) W = R
/-- Within a name, a byte taken. -/
structure NSt (pm limit : Nat) (R : Res) (m0 : Mc) (p : Ps) (w : World) (fs : List (Bytes × Bytes)) (fv : Value) (nb : Nat) (nm : Bytes) (v : Value) (c : UInt8) (r : Nat) (W : Wire) (wr : World) : Prop where
  f : FSt pm limit p w fs fv r W wr
  own : Own wr nb v (nm.map u8v)
  b1 : w.heap.size ≤ nb
  b2 : nb ≤ wr.heap.size
  b3 : ∀ g, fv.ownBlock = some g → g < nb
  len : nm.length + r ≤ 400
  names : ∀ d ∈ nm, isNameByte d = true
  c13 : nm = [] → c ≠ 13
  go : ∃ th u n0 vl, u + r + 1 = 400 ∧ After limit R (nmm m0 th u n0 nm vl fs) c W
/-- A fault ahead. -/
def DeadSt (ad : Nat → Addr) (pm limit : Nat) (R : Res) (p : Ps) (w : World) (wr : World) : Prop :=
  Only (· = pm) w wr ∧ ∃ tf vf W r, PM pm limit { p with wire := W, room := r } (.iface tf vf) wr ∧ Faulted ad pm R { p with wire := W, room := r } (.iface tf vf) wr
/-- How lines ends. -/
def LinesE (ad : Nat → Addr) (pm limit : Nat) (R : Res) (m0 : Mc) (p : Ps) (w : World) (e : Ending) (w' : World) : Prop :=
  (∃ v fs W r u nm vl, e = .returned v ∧ u + r + 1 = 400 ∧ PM pm limit { p with wire := W, room := r } .nilIface w' ∧ w'.ownsRow w.heap.size 88 2 v fs.length (fs.flatMap fcells) ∧ goodF fs ∧ fs.length ≤ 400 ∧ After limit R (lmm m0 4 14 u nm vl fs) 10 W) ∨
  (∃ v, e = .returned v ∧ ∃ tf vf W r, PM pm limit { p with wire := W, room := r } (.iface tf vf) w' ∧ Faulted ad pm R { p with wire := W, room := r } (.iface tf vf) w')
theorem row_slice {w : World} {base : Nat} {e : TypeId} {size : Nat} {v : Value} {n : Nat} {xs : List Value} (h : w.ownsRow base e size v n xs) : ∃ ao m cap, v = .slice ao m cap := by
  rcases h.2 with ⟨rfl, _⟩ | ⟨g, cap, cur, rfl, _⟩
  · exact ⟨_, _, _, rfl⟩
  · exact ⟨_, _, _, rfl⟩
theorem row_step {w w' : World} {base : Nat} {e : TypeId} {size : Nat} {v : Value} {n : Nat} {xs : List Value} (h : w.ownsRow base e size v n xs) (hb : Below w.heap.size w w') : w'.ownsRow base e size v n xs := row_only (S := fun _ => False) h (Only.of_below hb) (fun _ _ hf => hf)
theorem row_ge {w : World} {base : Nat} {e : TypeId} {size : Nat} {v : Value} {n : Nat} {xs : List Value} (h : w.ownsRow base e size v n xs) : ∀ g, v.ownBlock = some g → base ≤ g ∧ g < w.heap.size := h.lt
/-- The machine and the fields, behind a call that turns the machine alone. -/
theorem FSt.step {pm limit : Nat} {p : Ps} {w wr w1 : World} {fs : List (Bytes × Bytes)} {fv : Value} {r r' : Nat} {W W' : Wire} (h : FSt pm limit p w fs fv r W wr) (hlt : pm < w.heap.size) (hO : Only (· = pm) wr w1) (hP : PM pm limit { p with wire := W', room := r' } .nilIface w1) (hr : r' ≤ r) : FSt pm limit p w fs fv r' W' w1 :=
  ⟨hP, row_only h.row hO (fun g hg e => by have := (row_ge h.row g hg).1; have e : g = pm := e; omega), h.good, by have := h.cnt; omega, h.only.trans hO, h.nil⟩
theorem FaultAt.far {S : Nat → Prop} {ad : Nat → Addr} {pm k : Nat} {err : Value} {w w' : World} (h : FaultAt ad pm k err w) (hk : Only S w w') (hs : ∀ f, S f → ∃ s, w.cell? ⟨f, 0, none⟩ = some (.string s)) : FaultAt ad pm k err w' := by
  obtain ⟨f, e, hn, hl, hc⟩ := h
  refine ⟨f, e, hn, Nat.lt_of_lt_of_le hl hk.size, ?_⟩
  rw [hk.cell (p := ⟨f, 0, none⟩) hl (fun hf => by obtain ⟨s, q⟩ := hs f hf; rw [hc] at q; cases q)]
  exact hc
theorem Faulted.far {S : Nat → Prop} {ad : Nat → Addr} {pm : Nat} {R : Res} {p : Ps} {err : Value} {w w' : World} (h : Faulted ad pm R p err w) (hk : Only S w w') (hs : ∀ f, S f → ∃ s, w.cell? ⟨f, 0, none⟩ = some (.string s)) : Faulted ad pm R p err w' := by
  rcases h with ⟨h, e⟩ | ⟨h, e⟩
  · exact .inl ⟨h.far hk hs, e⟩
  · exact .inr ⟨h.far hk hs, e⟩
theorem row_head {w : World} {base : Nat} {e : TypeId} {v : Value} {fs : List (Bytes × Bytes)} (h : w.ownsRow base e 2 v fs.length (fs.flatMap fcells)) {g : Nat} (hg : v.ownBlock = some g) (hn : fs ≠ []) : ∃ s, w.cell? ⟨g, 0, none⟩ = some (.string s) := by
  cases fs with
  | nil => exact absurd rfl hn
  | cons f fs => exact ⟨_, h.cells hg 0 _ rfl⟩
set_option maxHeartbeats 8000000 in
set_option maxRecDepth 100000 in
theorem lines_any (pm limit : Nat) (R : Res) (m0 : Mc) (p : Ps) (ad : Nat → Addr) (B : Nat) (w : World) (hW : RepW ad B w) (hB : B ≤ pm) (hlt : pm < w.heap.size) (hbv : ∀ g, p.bv.ownBlock = some g → g < w.heap.size) (hT : Tells m0 p.hd p.body)
    (hS : (∃ u0 r0 W0, LSt pm limit R m0 p w [] (.slice none 0 0) r0 W0 w ∧ u0 + r0 = 400) ∨ DeadSt ad pm limit R p w w) :
    Calls Tryz.prog 41 #[.pointer (some ⟨pm, 0, none⟩)] w fun e w' => LinesE ad pm limit R m0 p w e w' ∧ Only (· = pm) w w' := by
  obtain ⟨i0, hi, hz0, hz1, hz2⟩ := info_parts u8Info'
  obtain ⟨i1, hi', hz0', hz1', hz2'⟩ := info_parts fieldInfo
  have HBv : Hid (∀ g, p.bv.ownBlock = some g → g < w.heap.size) := hbv
  have HW : Hid (RepW ad B w) := hW
  have HT : Hid (Tells m0 p.hd p.body) := hT
  have HS0 : Hid ((∃ u0 r0 W0, LSt pm limit R m0 p w [] (.slice none 0 0) r0 W0 w ∧ u0 + r0 = 400) ∨ DeadSt ad pm limit R p w w) := hS
  clear hW hT hS hbv
  go_enter Tryz.func41, Tryz.ntmps41
  go_wp2
  refine scope_fall (fun n l a' w' => ∃ (v fv : Value) (cz : Int), (∃ f : Nat → Value, a' = { tmps := #[.pointer (some ⟨pm, 0, none⟩), undef, .slice none 0 0, .int .u8 cz, v, fv, f 6, f 7, f 8, f 9, f 10, f 11, f 12, f 13, f 14, f 15, f 16, f 17, f 18, f 19, f 20, f 21, f 22, f 23, f 24, f 25, f 26, f 27, f 28, f 29, f 30, f 31, f 32, f 33, f 34, f 35, f 36, f 37, f 38, f 39], defers := [] }) ∧
    ((l = 0 ∧ ∃ fs r W, n = 2 * r + 3 ∧ Hid (LSt pm limit R m0 p w fs fv r W w')) ∨ (l = 0 ∧ n = 1 ∧ Hid (DeadSt ad pm limit R p w w')) ∨
     (l = 2 ∧ ∃ fs nb nm c r W, n = 2 * r + 2 ∧ cz = (c.toNat : Int) ∧ Hid (NSt pm limit R m0 p w fs fv nb nm v c r W w')) ∨ (l = 2 ∧ n = 0 ∧ cz = 0 ∧ Hid (DeadSt ad pm limit R p w w')) ∨
     (l = 1 ∧ n = 0 ∧ ∃ fs r W, Hid (TSt pm limit R m0 p w fs fv r W w')))) ?_ ?_
  · rintro n ih l a' wr ⟨v, fv, cz, ⟨f, rfl⟩, hL⟩
    rcases hL with ⟨rfl, fs, r, W, rfl, HS⟩ | ⟨rfl, rfl, HS⟩ | ⟨rfl, fs, nb, nm, c, r, W, rfl, rfl, HS⟩ | ⟨rfl, rfl, rfl, HS⟩ | ⟨rfl, rfl, fs, r, W, HS⟩
    · refine ⟨_, rfl, ?_⟩
      obtain ⟨th, u, nm, vl, hu, hg⟩ := HS.out.go
      have hWr : RepW ad B wr := HW.out.keep (only_keeps HS.out.f.only hB hlt)
      have hlr : pm < wr.heap.size := Nat.lt_of_lt_of_le hlt HS.out.f.only.size
      have HC := takeOfLine_alive pm limit R (lmm m0 5 th u nm vl fs) { p with wire := W, room := r } ad B wr HS.out.f.mem hWr hB hg rfl (by show u + r = 400; exact hu) (lmm_tells HT.out _ _ _ _ _ _)
      clear hWr hg
      go_wp2_with fail
      refine HC.mono ?_
      rintro e w1 ⟨hT1, hO1⟩
      rcases hT1 with ⟨c, W', rfl, hr0, hP1, hA⟩ | ⟨tf, vf, W', rfl, hP1, hF1⟩
      · have hr0 : 0 < r := hr0
        have hF : FSt pm limit p w fs fv (r - 1) W' w1 := HS.out.f.step hlt hO1 hP1 (by omega)
        by_cases h13 : c = 13
        · have t13 : (((c.toNat : Nat) : Int) == 13) = true := by rw [h13]; rfl
          have HS1 : Hid (TSt pm limit R m0 p w fs fv (r - 1) W' w1) := by
            refine ⟨hF, u + 1, nm, vl, by omega, ?_⟩
            unfold After at hA
            rw [h13, lmm_cr m0 th u nm vl fs (by omega)] at hA
            exact hA.symm
          clear hP1 hA hO1 HC h13 hF
          go_wp2
          go_step3
          try simp only [Exit.jump]
          exact ⟨0, by omega, _, _, _, mkF rfl, .inr (.inr (.inr (.inr ⟨rfl, rfl, fs, r - 1, W', HS1⟩)))⟩
        · have t13 : (((c.toNat : Nat) : Int) == 13) = false := by rw [beq_eq_false_iff_ne]; intro e; exact h13 (UInt8.toNat_inj.1 (by have : (13 : UInt8).toNat = 13 := rfl; omega))
          have HS1 : Hid (NSt pm limit R m0 p w fs fv w1.heap.size [] (.slice none 0 0) c (r - 1) W' w1) := by
            refine ⟨hF, Own.nil _ _, hF.only.size, Nat.le_refl _, fun g hg => (row_ge hF.row g hg).2, by show 0 + (r - 1) ≤ 400; omega, fun d hd => by simp at hd, fun _ => h13, th, u, nm, vl, by omega, ?_⟩
            exact hA
          clear hP1 hA hO1 HC h13 hF
          go_wp2_with fail
          go_step3
          rename_i hKK
          exact hKK _ _ (fall2 (ih (2 * (r - 1) + 2) 2 _ _ (by omega) ⟨_, _, _, mkF rfl, .inr (.inr (.inl ⟨rfl, fs, w1.heap.size, [], c, r - 1, W', rfl, rfl, HS1⟩))⟩) rfl fun k' l' a' w' hk' hJ => ⟨k', by omega, hJ⟩)
      · have HS1 : Hid (DeadSt ad pm limit R p w w1) := ⟨HS.out.f.only.trans hO1, tf, vf, W', _, hP1, hF1⟩
        clear hP1 hF1 hO1 HC
        go_wp2_with fail
        go_step3
        rename_i hKK
        exact hKK _ _ (fall2 (ih 0 2 _ _ (by omega) ⟨_, _, _, mkF rfl, .inr (.inr (.inr (.inl ⟨rfl, rfl, rfl, HS1⟩)))⟩) rfl fun k' l' a' w' hk' hJ => ⟨k', by omega, hJ⟩)
    · refine ⟨_, rfl, ?_⟩
      obtain ⟨hO, tf, vf, W, r, hP, hF⟩ := HS.out
      have HC := takeOfLine_dead pm limit _ tf vf wr hP
      clear hP hF hO
      go_wp2_with fail
      refine HC.mono ?_
      rintro e w1 ⟨rfl, rfl⟩
      go_wp2_with fail
      go_step3
      rename_i hKK
      exact hKK _ _ (fall2 (ih 0 2 _ _ (by omega) ⟨_, _, _, mkF rfl, .inr (.inr (.inr (.inl ⟨rfl, rfl, rfl, HS⟩)))⟩) rfl fun k' l' a' w' hk' hJ => ⟨k', by omega, hJ⟩)
    · refine ⟨_, rfl, ?_⟩
      obtain ⟨th, u, n0, vl, hu, hA⟩ := HS.out.go
      have hWr : RepW ad B wr := HW.out.keep (only_keeps HS.out.f.only hB hlt)
      have hlr : pm < wr.heap.size := Nat.lt_of_lt_of_le hlt HS.out.f.only.size
      have gb := hWr.byte
      have HIt := isName_n c.toNat wr c.toNat_lt
      rw [← name_is] at HIt
      obtain ⟨ao, vn, vc, rfl⟩ := own_slice' HS.out.own
      unfold After at hA
      cases hnb : isNameByte c with
      | true =>
        rw [hnb] at HIt
        rw [nmm_name m0 th u n0 nm vl fs hnb (by omega)] at hA
        have HA : Hid (goOn limit (nmm m0 th (u + 1) n0 (nm ++ [c]) vl fs) W = R) := hA.symm
        have HNb : Hid (isNameByte c = true) := hnb
        have HLl : Hid ((nm.map u8v).length = nm.length) := by show _ = _; simp
        have hb2 := HS.out.b2
        have hb1 := HS.out.b1
        have hlen := HS.out.len
        clear hA hnb hWr gb
        go_wp2_with fail
        refine HIt.mono ?_
        rintro e w2 ⟨rfl, rfl⟩
        go_wp2_with (at_builtin; refine wpList_append_T rfl _ _ 48 rfl nb 5 i0 (.int .u8 0) 1 Tryz.underlying48 hi hz0 hz1 hz2 rfl _ _ rfl (own_alloc' HS.out.own _) ⟨w2.heap.size, 0, none⟩ 1 1 [.int .u8 c.toNat] rfl rfl (one_cell' _ _ _) (fun u hu => by simp at hu; subst hu; rfl) (by decide) (by rw [HLl.out]; unfold maxLen; omega) (by rw [HLl.out]; omega) (by simp; omega) ?_)
        intro g cap w3 hO3 hT3
        have hge : ∀ q, (Value.slice ao vn vc).ownBlock = some q → nb ≤ q := fun q hq => own_block_ge HS.out.own q hq
        have hkk : Only (fun x => nb ≤ x) w2 w3 := ((Only.alloc _ _ _).trans (hT3.1.mono hge))
        have HF3 : Hid (FSt pm limit p w fs fv r W w3) := by
          refine ⟨HS.out.f.mem.keep hkk (fun x hx => ⟨by omega, fun e => by have := HBv.out x e; omega⟩), row_only HS.out.f.row hkk (fun g hg hx => by have := HS.out.b3 g hg; omega), HS.out.f.good, HS.out.f.cnt, only_then HS.out.f.only hkk (fun x hx => .inr (by omega)), HS.out.f.nil⟩
        have HO3' : Hid (Own w3 nb (.slice (some ⟨g, 0, none⟩) (nm.length + 1) cap) ((nm ++ [c]).map u8v)) := by
          show Own _ _ _ _
          have e : (nm ++ [c]).map u8v = nm.map u8v ++ [.int .u8 c.toNat] := by simp [u8v]
          rw [e]
          exact hO3
        have hsz3 : nb ≤ w3.heap.size := Nat.le_trans hb2 hkk.size
        have hW3 : RepW ad B w3 := HW.out.keep (only_keeps HF3.out.only hB hlt)
        have HC := takeOfLine_alive pm limit R (nmm m0 th (u + 1) n0 (nm ++ [c]) vl fs) { p with wire := W, room := r } ad B w3 HF3.out.mem hW3 hB HA.out nmm_counts (by rw [nmm_used]; show u + 1 + r = 400; omega) (nmm_tells HT.out _ _ _ _ _ _)
        clear hO3 hT3 hkk hW3 HIt
        go_wp2_with fail
        refine HC.mono ?_
        rintro e w4 ⟨hT4, hO4⟩
        rcases hT4 with ⟨c', W', rfl, hr0, hP4, hA4⟩ | ⟨tf, vf, W', rfl, hP4, hF4⟩
        · have hr0 : 0 < r := hr0
          have HS1 : Hid (NSt pm limit R m0 p w fs fv nb (nm ++ [c]) (.slice (some ⟨g, 0, none⟩) (nm.length + 1) cap) c' (r - 1) W' w4) := by
            refine ⟨HF3.out.step hlt hO4 hP4 (by omega), own_only' HO3'.out hO4 (fun q hq e => by have := own_block_ge HO3'.out q hq; have e : q = pm := e; omega), hb1, Nat.le_trans hsz3 hO4.size, HS.out.b3, by simp; omega, fun d hd => by rcases List.mem_append.1 hd with q | q; exact HS.out.names d q; simp at q; rw [q]; exact HNb.out, fun e => by simp at e, th, u + 1, n0, vl, by omega, hA4⟩
          clear hP4 hA4 hO4 HC
          go_wp2
          go_step3
          try simp only [Exit.jump]
          exact ⟨2 * (r - 1) + 2, by omega, _, _, _, mkF rfl, .inr (.inr (.inl ⟨rfl, fs, nb, nm ++ [c], c', r - 1, W', rfl, rfl, HS1⟩))⟩
        · have HS1 : Hid (DeadSt ad pm limit R p w w4) := ⟨HF3.out.only.trans hO4, tf, vf, W', _, hP4, hF4⟩
          clear hP4 hF4 hO4 HC
          go_wp2
          go_step3
          try simp only [Exit.jump]
          exact ⟨0, by omega, _, _, _, mkF rfl, .inr (.inr (.inr (.inl ⟨rfl, rfl, rfl, HS1⟩)))⟩
      | false =>
        rw [hnb] at HIt
        by_cases h58 : c = 58 ∧ nm ≠ []
        · obtain ⟨hc58, hnm⟩ := h58
          have t58 : (((c.toNat : Nat) : Int) != 58) = false := by rw [hc58]; rfl
          have hvn : vn = nm.length := by
            rcases HS.out.own with ⟨_, e⟩ | ⟨g, cap, e, _⟩
            · exact absurd (List.map_eq_nil_iff.1 e) hnm
            · injection e with _ e2; rw [e2, List.length_map]
          have hl0 : 0 < nm.length := List.length_pos_iff.2 hnm
          subst hvn
          have tl : ((nm.length : Int) == 0) = false := by rw [beq_eq_false_iff_ne]; omega
          rw [hc58, nmm_colon m0 th u n0 nm vl fs hnm (by omega)] at hA
          have hOd : Only (· = pm) w wr.drew := HS.out.f.only.trans (Only.drew _ wr 1)
          have hWd : RepW ad B wr.drew := HW.out.keep (only_keeps hOd hB hlt)
          have HC0 := restOfLine_alive pm limit R { p with wire := W, room := r } ad B _ _ wr.drew (HS.out.f.mem.below (Below.refl wr.heap.size wr).drew) hWd hB (rest_value m0 th (u + 1) nm fs (by show u + 1 + r = 400; omega) HT.out) hA.symm (by show r ≤ 400; omega)
          have HC : Calls Tryz.prog 57 #[.pointer (some ⟨pm, 0, none⟩)] wr.drew fun e w' => ∃ sx : ByteArray, e = .returned (.string sx) ∧ sx.size ≤ 400 ∧ Hid (RestS ad pm limit R { p with wire := W, room := r } (fun l => lmm m0 4 5 (u + 1 + l.length + 1) nm l (fs ++ [(nm, trimmed l)])) sx.data.toList w') ∧ Hid (Only (· = pm) wr.drew w') := HC0.mono fun e w' ⟨a, b⟩ => by obtain ⟨sx, q1, q2, q3⟩ := a.str (by show r ≤ 400; omega); exact ⟨sx, q1, q2, q3, b⟩
          have HTr : Hid (∀ (sx : ByteArray) (wx : World), sx.size ≤ 400 → Calls Tryz.prog 59 #[.string sx, .string ⟨#[32]⟩] wx fun e w' => e = .returned (.string ⟨(trimmed sx.data.toList).toArray⟩) ∧ Below wx.heap.size wx w') := fun sx wx hs => ((Tryz.strings_Trim_one sx 32 (by decide) wx (by omega)).mono fun e w' ⟨a, b⟩ => by
            rw [trim_is] at a
            rcases b with rfl | rfl
            · exact ⟨a, Below.refl _ _⟩
            · exact ⟨a, (Below.refl _ _).drew⟩)
          obtain ⟨fao, fn, fc, rfl⟩ := row_slice HS.out.f.row
          have hcv0 := own_string (HS.out.own.step (Below.refl wr.heap.size wr).drew)
          have HSo : Hid (Own wr nb (.slice ao nm.length vc) (nm.map u8v)) := HS.out.own
          have HRow : Hid (wr.ownsRow w.heap.size 88 2 (.slice fao fn fc) fs.length (fs.flatMap fcells)) := HS.out.f.row
          have HO2 : Hid (Only (· = pm) w wr.drew) := hOd
          have hb1 := HS.out.b1
          have hb2 := HS.out.b2
          have hb3 := HS.out.b3
          have hcnt := HS.out.f.cnt
          clear hA hnb hWr gb hc58 HC0 hOd hWd
          go_wp2_with fail
          refine HIt.mono ?_
          rintro e w2 ⟨rfl, rfl⟩
          go_wp2_with fail
          go_region_held3 (fun w' => (convert 48 9 (.slice ao nm.length vc)).run Tryz.prog w' = .ok (.string ⟨nm.toArray⟩) w')
            (first | exact own_string hOw3 | exact own_string (own_alloc' hOwb _) | exact own_string hOwb | exact own_string hOwa | exact hcv0)
            (first
              | (go_at_call 57; refine HC.mono ?_; rintro e wa ⟨sx, rfl, hsx, HX, HOa⟩; have hOwa := own_only' (HSo.out.step (Below.refl w2.heap.size w2).drew) HOa.out (fun g hg e => by have := own_block_ge HSo.out g hg; have e : g = pm := e; omega))
              | (go_at_call 59; refine (HTr.out _ _ hsx).mono ?_; rintro e wb ⟨rfl, hbB⟩; have hOwb := hOwa.step hbB; have hRb := row_step (row_only (row_step HRow.out (Below.refl w2.heap.size w2).drew) HOa.out (fun g hg e => by have := (row_ge HRow.out g hg).1; have e : g = pm := e; omega)) hbB; have hszb : w.heap.size ≤ wb.heap.size := Nat.le_trans (HO2.out.trans HOa.out).size hbB.size)
              | (refine step_append_lies _ (by rfl) _ _ 64 (by rfl) w.heap.size 88 i1 (.agg #[.string ⟨#[]⟩, .string ⟨#[]⟩]) 2 32 Tryz.underlying64 hi' hz0' hz1' hz2' rfl (by decide) _ fs.length (fs.flatMap fcells) (by rfl) (hRb.alloc _) _ 1 1 [.string ⟨nm.toArray⟩, .string ⟨(trimmed sx.data.toList).toArray⟩] (by rfl) (by rfl) (World.news_of_block (heap_alloc_new wb _)) (by intro u hu; simp at hu; rcases hu with rfl | rfl <;> rfl) (by decide) (by unfold maxLen; omega) (by omega) (by simp; omega) _ rfl ?_; intro g cap w4 hR4 hgrow hat hlt4; have hOw3 := own_only' (own_alloc' hOwb _) (only_grown (S := fun k => some k = (Value.slice fao fn fc).ownBlock) hgrow (fun k hk => hk.symm)) (fun q hq e => by have h1 := own_block_ge HSo.out q hq; have h2 := hb3 q e.symm; omega)))
          have hkk : Only (fun k => some k = (Value.slice fao fn fc).ownBlock) wa w4 := ((Only.of_below hbB).trans (Only.alloc _ _ _)).trans (only_grown hgrow (fun k hk => hk.symm))
          have hRow := HRow.out
          have hge : ∀ x, some x = (Value.slice fao fn fc).ownBlock → w.heap.size ≤ x := fun x hx => (row_ge hRow x hx.symm).1
          have HO4 : Hid (Only (· = pm) w w4) := only_then (HO2.out.trans HOa.out) hkk (fun x hx => .inr (hge x hx))
          have HJ : Hid ((∃ W3, sx.data.toList.length + 2 ≤ r ∧ LSt pm limit R m0 p w (fs ++ [(nm, trimmed sx.data.toList)]) (.slice (some ⟨g, 0, none⟩) (fs.length + 1) cap) (r - sx.data.toList.length - 2) W3 w4) ∨ DeadSt ad pm limit R p w w4) := by
            rcases HX.out with ⟨W3, hl3, hP3, hA3, htx⟩ | ⟨tf, vf, W3, r3, hP3, hF3⟩
            · have hl3 : sx.data.toList.length + 2 ≤ r := hl3
              refine .inl ⟨W3, hl3, ⟨hP3.keep hkk (fun x hx => ⟨by have := hge x hx; omega, fun e => by have := HBv.out x e; have := hge x hx; omega⟩), ?_, ?_, by simp; omega, HO4.out, fun _ _ => by simp⟩, 5, u + 1 + sx.data.toList.length + 1 + 1, nm, sx.data.toList, by omega, ?_⟩
              · rw [List.length_append, List.flatMap_append]
                exact hR4
              · intro q hq
                rcases List.mem_append.1 hq with h | h
                · exact HS.out.f.good q h
                · simp at h
                  rw [h]
                  exact ⟨HS.out.names, fun d hd => htx d (trimmed_mem hd), by have := HS.out.len; show nm.length ≤ 400; omega, Nat.le_trans (trimmed_len _) (by rw [size_len]; exact hsx)⟩
              · unfold After at hA3
                rw [lmm_lf m0 _ nm _ _ (by omega)] at hA3
                exact hA3.symm
            · refine .inr ⟨HO4.out, tf, vf, W3, r3, hP3.keep hkk (fun x hx => ⟨by have := hge x hx; omega, fun e => by have := HBv.out x e; have := hge x hx; omega⟩), hF3.far hkk (fun q hq => ?_)⟩
              obtain ⟨s, hs⟩ := row_head hRow hq.symm (HS.out.f.nil q hq.symm)
              refine ⟨s, ?_⟩
              rw [HOa.out.cell (p := ⟨q, 0, none⟩) (row_ge hRow q hq.symm).2 (fun e => by have := hge q hq; have e : q = pm := e; omega)]
              exact hs
          clear hkk hRow hge hOw3 hR4 hgrow hOwb hRb hOwa HX HOa hbB
          go_wp2
          go_step3
          try simp only [Exit.jump]
          rcases HJ.out with ⟨W3, hl3, hJ⟩ | hJ
          · exact ⟨2 * (r - sx.data.toList.length - 2) + 3, by omega, _, _, _, mkF rfl, .inl ⟨rfl, fs ++ [(nm, trimmed sx.data.toList)], r - sx.data.toList.length - 2, W3, rfl, hJ⟩⟩
          · exact ⟨1, by omega, _, _, _, mkF rfl, .inr (.inl ⟨rfl, rfl, hJ⟩)⟩
        · rw [nmm_no m0 th u n0 nm vl fs hnb h58 HS.out.c13] at hA
          have HRn : Hid (R = ⟨none, W.ticks⟩) := hA
          have HC2 := broken_first pm limit { p with wire := W, room := r } ad B (.pointer (some (ad 6))) 182 wr HS.out.f.mem hWr
          have HO0 : Hid (Only (· = pm) w wr) := HS.out.f.only
          by_cases hc58 : c = 58
          · have hnm : nm = [] := by
              cases hq : nm with
              | nil => rfl
              | cons a b => exact absurd ⟨hc58, by rw [hq]; simp⟩ h58
            have t58 : (((c.toNat : Nat) : Int) != 58) = false := by rw [hc58]; rfl
            have hv0 : vn = 0 := by
              rcases HS.out.own with ⟨e, _⟩ | ⟨g, cap, e, _⟩
              · injection e
              · injection e with _ e2; rw [e2, hnm]; rfl
            subst hv0
            clear hA hnb hWr h58 hc58
            go_wp2_with fail
            refine HIt.mono ?_
            rintro e w2 ⟨rfl, rfl⟩
            go_wp2_with fail
            refine HC2.mono ?_
            rintro e w3 ⟨rfl, ⟨err, hP3, hF3⟩, hO3⟩
            obtain ⟨f', rfl, q⟩ := hF3
            have HF : Hid (LinesE ad pm limit R m0 p w (.returned (.slice none 0 0)) w3) := .inr ⟨_, rfl, _, _, W, _, hP3, .inl ⟨⟨f', rfl, q⟩, HRn.out⟩⟩
            have HO3 : Hid (Only (· = pm) w w3) := HO0.out.trans hO3
            clear hP3 q hO3 HC2
            go_wp2
            simp only [jumps]
            go_ret
            exact ⟨HF.out, HO3.out⟩
          · have t58 : (((c.toNat : Nat) : Int) != 58) = true := by rw [bne_iff_ne]; intro e; exact hc58 (UInt8.toNat_inj.1 (by have : (58 : UInt8).toNat = 58 := rfl; omega))
            clear hA hnb hWr h58 hc58
            go_wp2_with fail
            refine HIt.mono ?_
            rintro e w2 ⟨rfl, rfl⟩
            go_wp2_with fail
            refine HC2.mono ?_
            rintro e w3 ⟨rfl, ⟨err, hP3, hF3⟩, hO3⟩
            obtain ⟨f', rfl, q⟩ := hF3
            have HF : Hid (LinesE ad pm limit R m0 p w (.returned (.slice none 0 0)) w3) := .inr ⟨_, rfl, _, _, W, _, hP3, .inl ⟨⟨f', rfl, q⟩, HRn.out⟩⟩
            have HO3 : Hid (Only (· = pm) w w3) := HO0.out.trans hO3
            clear hP3 q hO3 HC2
            go_wp2
            simp only [jumps]
            go_ret
            exact ⟨HF.out, HO3.out⟩
    · refine ⟨_, rfl, ?_⟩
      obtain ⟨hO, tf, vf, W, r, hP, hF⟩ := HS.out
      have hWr : RepW ad B wr := HW.out.keep (only_keeps hO hB hlt)
      have gb := hWr.byte
      have HIt : Calls Tryz.prog 58 #[.int .u8 0] wr fun e w' => e = .returned (.bool false) ∧ w' = wr := isName_n 0 wr (by decide)
      have HC2 := broken_later pm limit _ ad B tf vf (.iface 182 (.pointer (some (ad 6)))) wr hP hWr
      have HF : Hid (LinesE ad pm limit R m0 p w (.returned (.slice none 0 0)) wr) := .inr ⟨_, rfl, tf, vf, W, r, hP, hF⟩
      have HO : Hid (Only (· = pm) w wr) := hO
      clear hP hF hWr hO
      go_wp2_with fail
      refine HIt.mono ?_
      rintro e w2 ⟨rfl, rfl⟩
      go_wp2_with fail
      refine HC2.mono ?_
      rintro e w3 ⟨rfl, rfl⟩
      go_wp2
      simp only [jumps]
      go_ret
      exact ⟨HF.out, HO.out⟩
    · refine ⟨_, rfl, ?_⟩
      obtain ⟨u, nm, vl, hu, hg⟩ := HS.out.go
      have hWr : RepW ad B wr := HW.out.keep (only_keeps HS.out.f.only hB hlt)
      obtain ⟨ao, fn, fc, rfl⟩ := row_slice HS.out.f.row
      have HC2 := want_alive pm limit R { p with wire := W, room := r } ad B ⟨#[10]⟩ (fun _ => lmm m0 4 14 u nm vl fs) wr HS.out.f.mem hWr hB (by decide) (by decide) (by intro d hd; simp at hd; rw [hd]; decide) (chain_one rfl rfl (by show u + r = 400; exact hu) (lmm_tells HT.out _ _ _ _ _ _)) hg
      clear hWr hg
      go_wp2_with fail
      refine HC2.mono ?_
      rintro e w3 ⟨⟨rfl, hE3⟩, hO3⟩
      have HO3 : Hid (Only (· = pm) w w3) := HS.out.f.only.trans hO3
      have HF : Hid (LinesE ad pm limit R m0 p w (.returned (.slice ao fn fc)) w3) := by
        rcases hE3 with ⟨W3, dd, hl3, hP3, hd, hA3⟩ | ⟨tf, vf, W3, r3, hP3, hF3⟩
        · have hl3 : (1 : Nat) ≤ r := hl3
          have e : dd = 10 := (Option.some.inj hd).symm
          rw [e] at hA3
          have hq := HS.out.f.step hlt hO3 hP3 (by show r - 1 ≤ r; omega)
          exact .inl ⟨_, fs, W3, r - 1, u, nm, vl, rfl, by omega, hP3, hq.row, hq.good, by have := hq.cnt; omega, hA3⟩
        · exact .inr ⟨_, rfl, tf, vf, W3, r3, hP3, hF3⟩
      clear hE3 hO3 HC2
      go_wp2
      simp only [jumps]
      go_ret
      exact ⟨HF.out, HO3.out⟩
  · intro all
    go_wp2_with fail
    go_step3
    rename_i hKK
    rcases HS0.out with ⟨u0, r0, W0, hS, _⟩ | hS
    · exact hKK _ _ (fall2 (all (2 * r0 + 3) 0 _ _ ⟨_, _, _, mkF rfl, .inl ⟨rfl, [], r0, W0, rfl, hS⟩⟩) rfl fun k l' a' w' _ hJ => ⟨k, hJ⟩)
    · exact hKK _ _ (fall2 (all 1 0 _ _ ⟨_, _, _, mkF rfl, .inr (.inl ⟨rfl, rfl, hS⟩)⟩) rfl fun k l' a' w' _ hJ => ⟨k, hJ⟩)
end Go.Proofs.YtmodongnganbfaaGreatDoor.Rep
