/- Replies: the program's restOfLine. -/
import Derived.Test.YtmodongnganbfaaGreatDoorRpFToScopesB
namespace Go.Proofs.YtmodongnganbfaaGreatDoor.Rep
open Go.RowKit Go.Proofs.YtmodongnganbfaaGreatDoor Go.Proofs.YtmodongnganbfaaGreatDoor.Sha Go.Proofs.YtmodongnganbfaaGreatDoor.Inf
theorem isText_nat (n : Nat) (w : World) (hn : n < 256) : Calls Tryz.prog 73 #[.int .u8 (n : Int)] w fun e w' => e = .returned (.bool (decide (32 ≤ n) && decide (n ≤ 126))) ∧ w' = w := by
  by_cases h1 : 32 ≤ n
  · by_cases h2 : n ≤ 126
    · rw [decide_eq_true h1, decide_eq_true h2]
      have g1 : (32 : Int) ≤ (n : Int) := by omega
      have g2 : (n : Int) ≤ 126 := by omega
      go_enter Tryz.func73, Tryz.ntmps73
      go_wp2
      go_ret
      exact ⟨rfl, rfl⟩
    · rw [decide_eq_true h1, decide_eq_false h2]
      have g1 : (32 : Int) ≤ (n : Int) := by omega
      have g2 : ¬ (n : Int) ≤ 126 := by omega
      go_enter Tryz.func73, Tryz.ntmps73
      go_wp2
      go_ret
      exact ⟨rfl, rfl⟩
  · rw [decide_eq_false h1]
    have g1 : ¬ (32 : Int) ≤ (n : Int) := by omega
    go_enter Tryz.func73, Tryz.ntmps73
    go_wp2
    go_ret
    exact ⟨rfl, rfl⟩
theorem pisText_walk (c : UInt8) (w : World) : Calls Tryz.prog 73 #[.int .u8 c.toNat] w fun e w' => e = .returned (.bool (isText c)) ∧ w' = w := isText_nat c.toNat w c.toNat_lt
/-- What the rest of a line is, for the document's machine. -/
structure RestM (limit : Nat) (p : Ps) (mv mc : Bytes → Mc) : Prop where
  cnt : ∀ l, counts (mv l) = true
  cntc : ∀ l, counts (mc l) = true
  used : ∀ l, (mv l).used + p.room = 400 + l.length
  usedc : ∀ l, (mc l).used + p.room = 400 + l.length + 1
  tells : ∀ l, Tells (mv l) p.hd p.body
  tellsc : ∀ l, Tells (mc l) p.hd p.body
  text : ∀ l c, isText c = true → (mv l).used < 400 → feed limit (mv l) c = some (mv (l ++ [c]))
  cr : ∀ l, (mv l).used < 400 → feed limit (mv l) 13 = some (mc l)
  no : ∀ l c, isText c = false → c ≠ 13 → feed limit (mv l) c = none
  lf : ∀ l c, c ≠ 10 → feed limit (mc l) c = none
structure RSt (pm limit : Nat) (R : Res) (p : Ps) (mv : Bytes → Mc) (w : World) (L : Bytes) (W : Wire) (v : Value) (wr : World) : Prop where
  mem : PM pm limit { p with wire := W, room := p.room - L.length } .nilIface wr
  room : L.length ≤ p.room
  go : goOn limit (mv L) W = R
  own : Own wr w.heap.size v (L.map u8v)
  only : Only (· = pm) w wr
  txt : ∀ c ∈ L, isText c = true
theorem own_slice' {w : World} {b : Nat} {v : Value} {xs : List Value} (h : Own w b v xs) : ∃ ao n cap, v = .slice ao n cap := by
  rcases h with ⟨rfl, _⟩ | ⟨g, cap, rfl, _⟩
  · exact ⟨_, _, _, rfl⟩
  · exact ⟨_, _, _, rfl⟩
theorem own_alloc' {w : World} {b : Nat} {v : Value} {xs : List Value} (h : Own w b v xs) (o : Obj) : Own (w.alloc o) b v xs := h.step ((Below.refl _ _).alloc (Nat.le_refl _) o)
theorem one_cell' (w : World) (a : Value) (t : TypeId) : ∀ j u, [a][j]? = some u → (w.alloc (.cells #[a] t)).cell? ((⟨w.heap.size, 0, none⟩ : Addr).add j) = some u := by
  intro j u hj
  match j, hj with
  | 0, hj => simp at hj; subst hj; simp [Addr.add]
/-- The machine lies below what was turned. -/
theorem PM.keep {S : Nat → Prop} {pm limit : Nat} {p : Ps} {err : Value} {w w' : World} (h : PM pm limit p err w) (hk : Only S w w') (hs : ∀ x, S x → pm < x ∧ p.bv.ownBlock ≠ some x) : PM pm limit p err w' := by
  obtain ⟨ao, n, cap, bv, hR, hn, hc, hc2, hE, hg, hO, hbn⟩ := h.ex
  have hb : Below (pm + 1) w w' := ⟨hk.os, hk.tape, hk.output, hk.size, fun k hkk => hk.block k (by have := h.lt; omega) (fun e => by have := (hs k e).1; omega)⟩
  refine ⟨⟨ao, n, cap, bv, ?_, hn, hc, hc2, hE.keep hb (fun g off e hn => by have := hg g off e hn; omega), hg, ?_, hbn⟩, h.ok⟩
  · exact ⟨fun i v hi => by rw [hb.cell (p := ⟨pm, i, none⟩) (Nat.lt_succ_self pm)]; exact hR.cell i v hi, fun i => by rw [hb.frozen (p := ⟨pm, i, none⟩) (Nat.lt_succ_self pm)]; exact hR.fro i⟩
  · exact own_only' hO hk (fun g hg2 e => (hs g e).2 (by rw [← hbn.2]; exact hg2))
theorem PM.bvlt {pm limit : Nat} {p : Ps} {err : Value} {w : World} (h : PM pm limit p err w) : ∀ g, p.bv.ownBlock = some g → g < w.heap.size := by
  obtain ⟨ao, n, cap, bv, hR, hn, hc, hc2, hE, hg, hO, hbn⟩ := h.ex
  intro g e
  exact own_block_lt hO g (by rw [hbn.2]; exact e)
theorem own_string {w : World} {base : Nat} {v : Value} {l : Bytes} (h : Own w base v (l.map u8v)) : (convert 48 9 v).run Tryz.prog w = .ok (.string ⟨l.toArray⟩) w := by
  cases l with
  | nil =>
    rcases h with ⟨rfl, _⟩ | ⟨g, cap, rfl, _⟩
    · kernel_rfl
    · exact run_convert_bytes_back w 48 9 5 ⟨g, 0, none⟩ cap [] Tryz.underlying48 Tryz.underlying5 Tryz.underlying9 (fun j hj => by simp at hj)
  | cons c l => exact Own.string h (by simp)
/-- How restOfLine ends. -/
def RestE (ad : Nat → Addr) (pm limit : Nat) (R : Res) (p : Ps) (mc : Bytes → Mc) (e : Ending) (w' : World) : Prop :=
  (∃ L W, e = .returned (.string ⟨(L : Bytes).toArray⟩) ∧ L.length + 2 ≤ p.room ∧ PM pm limit { p with wire := W, room := p.room - L.length - 2 } .nilIface w' ∧ After limit R (mc L) 10 W ∧ ∀ c ∈ L, isText c = true) ∨
  (∃ s tf vf W r, e = .returned (.string s) ∧ s.size ≤ 400 ∧ PM pm limit { p with wire := W, room := r } (.iface tf vf) w' ∧ Faulted ad pm R { p with wire := W, room := r } (.iface tf vf) w')
theorem u8Info' : (Tryz.prog.info? 5).map (fun i => (i.zero, i.size, i.bytes)) = some (some (.int .u8 0), 1, 1) := by kernel_rfl
theorem chain_lf {limit : Nat} {p : Ps} {mv mc : Bytes → Mc} (h : RestM limit p mv mc) (L : Bytes) (W : Wire) (hL : L.length + 1 ≤ p.room) : Chain limit { p with wire := W, room := p.room - L.length - 1 } [10] (fun _ => mc L) where
  cnt := fun _ _ => h.cntc L
  used := fun i hi => by have := h.usedc L; simp at hi; subst hi; show (mc L).used + (p.room - L.length - 1) = 400 + 0; omega
  tells := fun _ _ => h.tellsc L
  no := fun i c hc hi => h.lf L c (by simp at hi; subst hi; intro e; exact hc (by rw [e]; rfl))
  yes := fun i c _ hi _ => by simp at hi
set_option maxHeartbeats 4000000 in
set_option maxRecDepth 100000 in
theorem restOfLine_alive (pm limit : Nat) (R : Res) (p : Ps) (ad : Nat → Addr) (B : Nat) (mv mc : Bytes → Mc) (w : World) (h : PM pm limit p .nilIface w) (hW : RepW ad B w) (hB : B ≤ pm) (hM : RestM limit p mv mc) (hR : goOn limit (mv []) p.wire = R) (hr400 : p.room ≤ 400) :
    Calls Tryz.prog 57 #[.pointer (some ⟨pm, 0, none⟩)] w fun e w' => RestE ad pm limit R p mc e w' ∧ Only (· = pm) w w' := by
  have hlt := h.lt
  obtain ⟨i0, hi, hz0, hz1, hz2⟩ := info_parts u8Info'
  have HS0 : Hid (RSt pm limit R p mv w [] p.wire (.slice none 0 0) w) := ⟨h, Nat.zero_le _, hR, Own.nil _ _, Only.refl _ _, fun c hc => by simp at hc⟩
  have HBv : Hid (∀ g, p.bv.ownBlock = some g → g < w.heap.size) := h.bvlt
  have HW : Hid (RepW ad B w) := hW
  have HM : Hid (RestM limit p mv mc) := hM
  clear h hW hM hR
  go_enter Tryz.func57, Tryz.ntmps57
  go_wp2
  refine scope_fall (fun n l a' w' => ∃ (L : Bytes) (W : Wire) (v : Value) (cz : Int), (∃ f : Nat → Value, a' = { tmps := #[.pointer (some ⟨pm, 0, none⟩), undef, .string ⟨#[]⟩, .int .u8 cz, v, f 5, f 6, f 7, f 8, f 9, f 10, f 11, f 12, f 13, f 14, f 15, f 16, f 17, f 18, f 19, f 20, f 21], defers := [] }) ∧ l = 0 ∧ n = p.room - L.length ∧ Hid (RSt pm limit R p mv w L W v w')) ?_ ?_
  · rintro n ih l a' wr ⟨L, W, v, cz, ⟨f, rfl⟩, rfl, rfl, HS⟩
    clear ih HS0
    refine ⟨_, rfl, ?_⟩
    have hWr : RepW ad B wr := HW.out.keep (only_keeps HS.out.only hB hlt)
    have hroom := HS.out.room
    have HC := takeOfLine_alive pm limit R (mv L) { p with wire := W, room := p.room - L.length } ad B wr HS.out.mem hWr hB HS.out.go (HM.out.cnt L) (by have := HM.out.used L; show (mv L).used + (p.room - L.length) = 400; omega) (HM.out.tells L)
    obtain ⟨ao, vn, vc, rfl⟩ := own_slice' HS.out.own
    clear hWr
    go_wp2_with fail
    refine HC.mono ?_
    rintro e w1 ⟨hT1, hO1⟩
    have HO1 : Hid (Only (· = pm) w w1) := HS.out.only.trans hO1
    have HOw : Hid (Own w1 w.heap.size (.slice ao vn vc) (L.map u8v)) := own_only' HS.out.own hO1 (fun g hg e => by have := own_block_ge HS.out.own g hg; have e : g = pm := e; omega)
    have hW1 : RepW ad B w1 := HW.out.keep (only_keeps HO1.out hB hlt)
    have gb := hW1.byte
    have hsz1 : w.heap.size ≤ w1.heap.size := HO1.out.size
    rcases hT1 with ⟨c, W', rfl, hr0, hP1, hA⟩ | ⟨tf, vf, W', rfl, hP1, hF1⟩
    · simp only [] at hr0
      have husd : (mv L).used < 400 := by have := HM.out.used L; omega
      cases htx : isText c with
      | true =>
        have HG : Hid (goOn limit (mv (L ++ [c])) W' = R) := by
          show _ = _
          unfold After at hA
          rw [HM.out.text L c htx husd] at hA
          exact hA.symm
        have HP1 : Hid (PM pm limit { p with wire := W', room := p.room - L.length - 1 } .nilIface w1) := hP1
        have HLl : Hid ((L.map u8v).length = L.length) := by show _ = _; simp
        have Htx : Hid (isText c = true) := htx
        have HIt := pisText_walk c w1
        rw [htx] at HIt
        clear hP1 hA htx hW1 gb hO1 HC
        go_wp2_with fail
        refine HIt.mono ?_
        rintro e w2 ⟨rfl, rfl⟩
        go_wp2_with (at_builtin; refine wpList_append_T rfl _ _ 48 rfl w.heap.size 5 i0 (.int .u8 0) 1 Tryz.underlying48 hi hz0 hz1 hz2 rfl _ _ rfl (own_alloc' HOw.out _) ⟨w2.heap.size, 0, none⟩ 1 1 [.int .u8 c.toNat] rfl rfl (one_cell' _ _ _) (fun u hu => by simp at hu; subst hu; rfl) (by decide) (by rw [HLl.out]; unfold maxLen; omega) (by rw [HLl.out]; omega) (by simp; omega) ?_)
        intro g cap w3 hO3 hT3
        have HS3 : Hid (RSt pm limit R p mv w (L ++ [c]) W' (.slice (some ⟨g, 0, none⟩) (L.length + 1) cap) w3) := by
          have hge : ∀ q, (Value.slice ao vn vc).ownBlock = some q → w.heap.size ≤ q := fun q hq => own_block_ge HOw.out q hq
          have hkk : Only (fun x => w.heap.size ≤ x) w2 w3 := ((Only.alloc _ _ _).trans (hT3.1.mono hge))
          refine ⟨?_, by simp; omega, HG.out, ?_, only_then HO1.out hkk (fun x hx => .inr hx), fun d hd => by rcases List.mem_append.1 hd with q | q; exact HS.out.txt d q; simp at q; rw [q]; exact Htx.out⟩
          · have q := HP1.out.keep hkk (fun x hx => ⟨by omega, fun e => by have := HBv.out x e; omega⟩)
            rw [show p.room - (L ++ [c]).length = p.room - L.length - 1 by simp; omega]
            exact q
          · have e : (L ++ [c]).map u8v = L.map u8v ++ [.int .u8 c.toNat] := by simp [u8v]
            rw [e]
            exact hO3
        clear hO3 hT3
        go_wp2
        go_step3
        try simp only [Exit.jump]
        exact ⟨p.room - (L ++ [c]).length, by simp; omega, L ++ [c], W', _, _, mkF rfl, rfl, rfl, HS3⟩
      | false =>
        have HIt := pisText_walk c w1
        rw [htx] at HIt
        by_cases h13 : c = 13
        · have t13 : (((c.toNat : Nat) : Int) != 13) = false := by rw [h13]; rfl
          have hg0 : goOn limit (mc L) W' = R := by
            unfold After at hA
            rw [h13, HM.out.cr L husd] at hA
            exact hA.symm
          have HC2 := want_alive pm limit R { p with wire := W', room := p.room - L.length - 1 } ad B ⟨#[10]⟩ (fun _ => mc L) w1 hP1 hW1 hB (by decide) (by decide) (by intro d hd; simp at hd; rw [hd]; decide) (chain_lf HM.out L W' (by omega)) hg0
          clear hP1 hA htx hW1 gb hO1 HC h13 hg0
          go_wp2_with fail
          refine HIt.mono ?_
          rintro e w2 ⟨rfl, rfl⟩
          go_wp2_with fail
          refine HC2.mono ?_
          rintro e w3 ⟨⟨rfl, hE3⟩, hO3⟩
          have HO3 : Hid (Only (· = pm) w w3) := HO1.out.trans hO3
          have ho3 : Own w3 w.heap.size (.slice ao vn vc) (L.map u8v) := own_only' HOw.out hO3 (fun g hg e => by have := own_block_ge HOw.out g hg; have e : g = pm := e; omega)
          have hcv := own_string ho3
          have HF : Hid (RestE ad pm limit R p mc (.returned (.string ⟨L.toArray⟩)) w3) := by
            rcases hE3 with ⟨W3, d, hl3, hP3, hd, hA3⟩ | ⟨tf, vf, W3, r3, hP3, hF3⟩
            · refine .inl ⟨L, W3, rfl, ?_, ?_, ?_, HS.out.txt⟩
              · have : (1 : Nat) ≤ p.room - L.length - 1 := hl3
                omega
              · have e : p.room - L.length - 1 - 1 = p.room - L.length - 2 := by omega
                have q := hP3
                simp only [] at q
                rw [show ([10] : Bytes).length = 1 from rfl, e] at q
                exact q
              · have e : d = 10 := (Option.some.inj hd).symm
                rw [e] at hA3
                exact hA3
            · exact .inr ⟨_, tf, vf, W3, r3, rfl, by show L.toArray.size ≤ 400; simp; omega, hP3, hF3⟩
          clear hE3 hO3 ho3 HC2
          go_wp2
          simp only [jumps]
          go_ret
          exact ⟨HF.out, HO3.out⟩
        · have t13 : (((c.toNat : Nat) : Int) != 13) = true := by rw [bne_iff_ne]; intro e; exact h13 (UInt8.toNat_inj.1 (by have : (13 : UInt8).toNat = 13 := rfl; omega))
          have HRn : Hid (R = ⟨none, W'.ticks⟩) := by
            show _ = _
            unfold After at hA
            rw [HM.out.no L c htx h13] at hA
            exact hA
          have HC2 := broken_first pm limit { p with wire := W', room := p.room - L.length - 1 } ad B (.pointer (some (ad 6))) 182 w1 hP1 hW1
          clear hP1 hA htx hW1 hO1 HC h13
          go_wp2_with fail
          refine HIt.mono ?_
          rintro e w2 ⟨rfl, rfl⟩
          go_wp2_with fail
          refine HC2.mono ?_
          rintro e w3 ⟨rfl, ⟨err, hP3, hF3⟩, hO3⟩
          obtain ⟨f', rfl, q⟩ := hF3
          have HF : Hid (RestE ad pm limit R p mc (.returned (.string ⟨#[]⟩)) w3) := .inr ⟨_, _, _, W', _, rfl, by decide, hP3, .inl ⟨⟨f', rfl, q⟩, HRn.out⟩⟩
          have HO3 : Hid (Only (· = pm) w w3) := HO1.out.trans hO3
          clear hP3 q hO3 HC2
          go_wp2
          simp only [jumps]
          go_ret
          exact ⟨HF.out, HO3.out⟩
    · have HIt := pisText_walk 0 w1
      rw [show isText 0 = false by decide] at HIt
      have HIt : Calls Tryz.prog 73 #[.int .u8 0] w1 fun e w' => e = .returned (.bool false) ∧ w' = w1 := HIt
      have HC2 := broken_later pm limit { p with wire := W', room := p.room - L.length } ad B tf vf (.iface 182 (.pointer (some (ad 6)))) w1 hP1 hW1
      have HF : Hid (RestE ad pm limit R p mc (.returned (.string ⟨#[]⟩)) w1) := .inr ⟨_, tf, vf, W', _, rfl, by decide, hP1, hF1⟩
      clear hP1 hF1 hW1 hO1 HC
      go_wp2_with fail
      refine HIt.mono ?_
      rintro e w2 ⟨rfl, rfl⟩
      go_wp2_with fail
      refine HC2.mono ?_
      rintro e w3 ⟨rfl, rfl⟩
      go_wp2
      simp only [jumps]
      go_ret
      exact ⟨HF.out, HO1.out⟩
  · intro all
    go_wp2_with fail
    go_step3
    rename_i hKK
    exact hKK _ _ (fall2 (all p.room 0 _ _ ⟨[], p.wire, _, _, mkF rfl, rfl, rfl, HS0⟩) rfl fun k l' a' w' _ hJ => ⟨k, hJ⟩)
end Go.Proofs.YtmodongnganbfaaGreatDoor.Rep
