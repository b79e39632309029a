/- Replies: what the program tells behind its run; its clamp. -/
import Derived.Test.YtmodongnganbfaaGreatDoorRpZ
import Derived.Test.YtmodongnganbfaaGreatDoorRdW
namespace Go.Proofs.YtmodongnganbfaaGreatDoor.Rep
open Go.RowKit Go.Proofs.YtmodongnganbfaaGreatDoor Go.Proofs.YtmodongnganbfaaGreatDoor.Sha Go.Proofs.YtmodongnganbfaaGreatDoor.Inf
theorem PM.c4 {pm limit : Nat} {p : Ps} {err : Value} {w : World} (h : PM pm limit p err w) : w.cell? ⟨pm, 4, none⟩ = some (.int .i64 p.wire.ticks) := by
  obtain ⟨ao, n, cap, bv, hR, _⟩ := h.ex
  exact hR.cell 4 _ rfl
/-- A reply that is no broken one. -/
theorem tell_told (pm limit c : Nat) (p : Ps) (ev : Value) (w : World) (hP : PM pm limit p ev w) (hc : c ≠ 6) (hC : ClsAt pm p.hd.status c p.wire.ticks ev w) (fr tot : Nat) (h6 : p.hd.status = 206 → fr = p.hd.first ∧ tot = p.hd.total) (h0 : p.hd.status ≠ 206 → fr = 0 ∧ tot = 0) :
    Calls Tryz.prog 17 #[.pointer (some ⟨pm, 0, none⟩)] w fun e w' => e = .returned (encR ⟨c, p.hd.status, p.hd.tag, p.body, fr, tot, p.wire.ticks⟩) ∧ Below w.heap.size w w' := by
  obtain ⟨k7, _, _, _, _, k12, _, k14, _, k16, _⟩ := hP.hcells
  obtain ⟨k17, _, hO⟩ := hP.c17
  have k18 := hP.c18.1
  have k4 := hP.c4
  by_cases hs : p.hd.status = 206
  · obtain ⟨rfl, rfl⟩ := h6 hs
    exact tell_part pm p.hd.status c p.wire.ticks ev w k7 k18 k4 hC ⟨p.hd.tag.toArray⟩ p.bv p.body _ _ hc k12 k17 hO k14 k16 hs
  · obtain ⟨rfl, rfl⟩ := h0 hs
    exact tell_whole pm p.hd.status c p.wire.ticks ev w k7 k18 k4 hC ⟨p.hd.tag.toArray⟩ p.bv p.body hc k12 k17 hO hs
theorem RepW.small {ad : Nat → Addr} {B : Nat} {w w' : World} (h : RepW ad B w) (hb : Below w.heap.size w w') : RepW ad (B + w.heap.size) w' := by
  have g : ∀ k v, w.cell? ⟨k, 0, none⟩ = some v → w'.cell? ⟨k, 0, none⟩ = some v := fun k v e => cell_below hb e
  exact ⟨g _ _ h.refused, g _ _ h.reset, g _ _ h.late, g _ _ h.closed, g _ _ h.again, g _ _ h.broken, g _ _ h.byte, g _ _ h.long, g _ _ h.head, g _ _ h.limit, g _ _ h.part, g _ _ h.twice, g _ _ h.number, g _ _ h.coding, g _ _ h.span, g _ _ h.both, g _ _ h.noRange, g _ _ h.typ, h.ne, fun i hi => ⟨Nat.lt_of_lt_of_le (h.row i hi).1 (Nat.le_add_right _ _), by obtain ⟨c, t, e⟩ := (h.row i hi).2; exact ⟨c, t, by rw [hb.block _ (lt_of_block e)]; exact e⟩⟩, Nat.le_trans h.ng (Nat.le_add_right _ _)⟩
theorem tell_walk (pm limit B : Nat) (R : Res) (ad : Nat → Addr) (w : World) (h : RunE ad pm limit R w) (hW : RepW ad B w) :
    Calls Tryz.prog 17 #[.pointer (some ⟨pm, 0, none⟩)] w fun e w' => e = .returned (encR (toldP R)) ∧ Below w.heap.size w w' := by
  rcases h with ⟨p, m, hP, hR, h14, hT, hh, hs1, hs2⟩ | ⟨tf, vf, p, hP, hF⟩
  · rcases hT with ⟨_, t1, t2, t3, t4⟩ | ⟨hf, _, _⟩
    · have e : toldP R = ⟨classOf p.hd.status, p.hd.status, p.hd.tag, p.body, frOf m, totOf m, p.wire.ticks⟩ := by
        rw [hR]
        unfold toldP
        simp only []
        rw [if_pos h14, t1, t2, t3]
      rw [e]
      refine tell_told pm limit (classOf p.hd.status) p .nilIface w hP (classOf_ne _).1 (clsAt hP.hcells.1 hP.c18.1 hP.c4 (fun wx _ => class_nil p.hd.status wx)) _ _ (fun h6 => ?_) (fun h0 => ?_)
      · have q := t4 (by rw [← t1]; exact h6)
        exact ⟨q.1.symm, q.2.symm⟩
      · unfold frOf totOf
        rw [if_neg (by rw [← t1]; exact h0), if_neg (by rw [← t1]; exact h0)]
        exact ⟨rfl, rfl⟩
    · rw [hh] at hf; cases hf
  · rcases hF with ⟨hA, hR⟩ | ⟨hA, m, hR, h14, hT⟩
    · have hA' := hA
      obtain ⟨f, ef, hfn, hfl, hfc⟩ := hA
      rw [ef] at hP hA'
      have e : encR (toldP R) = .agg #[.int .i64 6, .int .i64 0, .string ⟨#[]⟩, .string ⟨#[]⟩, .int .i64 0, .int .i64 0, .int .i64 p.wire.ticks] := by rw [hR]; rfl
      rw [e]
      exact tell_broken pm p.hd.status 6 p.wire.ticks _ w hP.hcells.1 hP.c18.1 hP.c4 (clsAt hP.hcells.1 hP.c18.1 hP.c4 (fun wx hb => class_fault f p.hd.status 5 6 ad pm _ wx (hW.small hb) (hA'.below hb) (.inl ⟨rfl, rfl⟩))) rfl
    · have hA' := hA
      obtain ⟨f, ef, hfn, hfl, hfc⟩ := hA
      rw [ef] at hP hA'
      have hC : ClsAt pm p.hd.status 4 p.wire.ticks (.iface 75 (.pointer (some ⟨f, 0, none⟩))) w := clsAt hP.hcells.1 hP.c18.1 hP.c4 (fun wx hb => class_fault f p.hd.status 4 4 ad pm _ wx (hW.small hb) (hA'.below hb) (.inr ⟨rfl, rfl⟩))
      rcases hT with ⟨hh, t1, t2, t3, t4⟩ | ⟨hh, t1, t2⟩
      · have e : toldP R = ⟨4, p.hd.status, p.hd.tag, p.body, frOf m, totOf m, p.wire.ticks⟩ := by
          rw [hR]
          unfold toldP
          simp only []
          rw [if_neg h14, if_pos hh, t1, t2, t3]
        rw [e]
        refine tell_told pm limit 4 p _ w hP (by decide) hC _ _ (fun h6 => ?_) (fun h0 => ?_)
        · have q := t4 (by rw [← t1]; exact h6)
          exact ⟨q.1.symm, q.2.symm⟩
        · unfold frOf totOf
          rw [if_neg (by rw [← t1]; exact h0), if_neg (by rw [← t1]; exact h0)]
          exact ⟨rfl, rfl⟩
      · have e : toldP R = ⟨4, p.hd.status, p.hd.tag, p.body, 0, 0, p.wire.ticks⟩ := by
          rw [hR]
          unfold toldP
          simp only []
          rw [if_neg h14, if_neg (by rw [hh]; decide), t1, t2]
          rfl
        rw [e]
        exact tell_told pm limit 4 p _ w hP (by decide) hC _ _ (fun h6 => by rw [t1] at h6; cases h6) (fun _ => ⟨rfl, rfl⟩)
theorem clamp_walk (n most : Int) (w : World) : Calls Tryz.prog 15 #[.int .i64 n, .int .i64 most] w fun e w' => e = .returned (.int .i64 (min (max n 0) most)) ∧ w' = w := by
  go_enter Tryz.func15, Tryz.ntmps15
  go_wp2
  go_ret
  exact ⟨rfl, rfl⟩
theorem clamp_hid (n most : Int) (w : World) : Calls Tryz.prog 15 #[.int .i64 n, .int .i64 most] w fun e w' => (∃ x, e = .returned (.int .i64 x) ∧ Hid (x = min (max n 0) most)) ∧ Hid (w' = w) := (clamp_walk n most w).mono fun _ _ q => ⟨⟨_, q.1, rfl⟩, q.2⟩
theorem clamp_let (n most : Int) (w : World) : Calls Tryz.prog 15 #[.int .i64 n, .int .i64 most] w fun e w' => (∃ x, e = .returned (.int .i64 x) ∧ Hid (x = min (max n 0) most)) ∧ w' = w := (clamp_walk n most w).mono fun _ _ q => ⟨⟨_, q.1, rfl⟩, q.2⟩
end Go.Proofs.YtmodongnganbfaaGreatDoor.Rep
/- Replies: the machine that Read makes. -/
namespace Go.Proofs.YtmodongnganbfaaGreatDoor.Rep
open Go.RowKit Go.Proofs.YtmodongnganbfaaGreatDoor Go.Proofs.YtmodongnganbfaaGreatDoor.Sha Go.Proofs.YtmodongnganbfaaGreatDoor.Inf
/-- The machine as Read makes it. -/
def newPs (rf : Bool) (evs : List Event) (D : Int) : Ps := ⟨⟨rf, evs, [], D, 0⟩, 0, Hd.none, [], .slice none 0 0⟩
structure RdSt (w : World) (rf : Bool) (evs : List Event) (D : Int) (L pm : Nat) (wc : World) : Prop where
  mem : PM pm L (newPs rf evs D) .nilIface wc
  res : Row wc (w.heap.size + 1) [.int .i64 0, .int .i64 0, .string ⟨#[]⟩, .string ⟨#[]⟩, .int .i64 0, .int .i64 0, .int .i64 0]
  bel : Below w.heap.size w wc
  lt : w.heap.size + 1 < pm
/-- The machine's cells, as Read sets them. -/
def mCells (rf : Bool) (ao : Option Addr) (n cap : Nat) (x y : Int) : List Value := [.bool rf, .slice ao n cap, .string ⟨#[]⟩, .int .i64 x, .int .i64 0, .int .i64 y, .int .i64 0, .int .i64 0, .bool false, .int .i64 0, .bool false, .bool false, .string ⟨#[]⟩, .bool false, .int .i64 0, .int .i64 0, .int .i64 0, .slice none 0 0, .nilIface]
theorem row_there {w : World} {b : Nat} {xs : List Value} (h : Row w b xs) (n : Nat) (hn : n = xs.length) : w.there b 0 n := fun j hj => by
  have hj' : j < xs.length := by omega
  rw [Nat.zero_add]
  exact ⟨by rw [h.cell j _ (List.getElem?_eq_getElem hj')]; rfl, h.fro j⟩
theorem row_setCells {w : World} {b : Nat} {xs : List Value} (h : Row w b xs) (vs : List Value) (hn : vs.length = xs.length) : Row (w.setCells b 0 vs) b vs := by
  refine ⟨fun i v hi => ?_, fun i => by rw [World.frozen?_setCells]; exact h.fro i⟩
  have q := World.rangeAt_setCells_same w b 0 vs (row_there h _ hn) i v hi
  rw [Nat.zero_add] at q
  exact q
theorem keepS {db b : Nat} {r s : Value} {w : World} (vs : List Value) (hb : db < b) (h : w.cell? ⟨db, 0, none⟩ = some r ∧ w.cell? ⟨db, 1, none⟩ = some s) : (w.setCells b 0 vs).cell? ⟨db, 0, none⟩ = some r ∧ (w.setCells b 0 vs).cell? ⟨db, 1, none⟩ = some s := by
  have hl : db < w.heap.size := lt_of_cell h.1
  have hk := only_setCells b vs 0 w
  have hn : ¬ (db = b) := by omega
  exact ⟨by rw [hk.cell (p := ⟨db, 0, none⟩) hl hn]; exact h.1, by rw [hk.cell (p := ⟨db, 1, none⟩) hl hn]; exact h.2⟩
theorem rowB {w0 wn : World} (h : Hid (wn = (w0.alloc (.cells #[.bool false, .slice none 0 0, .string ⟨#[]⟩, .int .i64 0, .int .i64 0, .int .i64 0, .int .i64 0, .int .i64 0, .bool false, .int .i64 0, .bool false, .bool false, .string ⟨#[]⟩, .bool false, .int .i64 0, .int .i64 0, .int .i64 0, .slice none 0 0, .nilIface] 52)).drew)) : Row wn w0.heap.size [.bool false, .slice none 0 0, .string ⟨#[]⟩, .int .i64 0, .int .i64 0, .int .i64 0, .int .i64 0, .int .i64 0, .bool false, .int .i64 0, .bool false, .bool false, .string ⟨#[]⟩, .bool false, .int .i64 0, .int .i64 0, .int .i64 0, .slice none 0 0, .nilIface] := by
  rw [h.out]; exact (prow_new w0 #[.bool false, .slice none 0 0, .string ⟨#[]⟩, .int .i64 0, .int .i64 0, .int .i64 0, .int .i64 0, .int .i64 0, .bool false, .int .i64 0, .bool false, .bool false, .string ⟨#[]⟩, .bool false, .int .i64 0, .int .i64 0, .int .i64 0, .slice none 0 0, .nilIface] 52 w0.heap.size rfl).drew 1
theorem rowC {w1 wn : World} (h : Hid (wn = w1.alloc (.cells #[.bool false, .slice none 0 0, .string ⟨#[]⟩, .int .i64 0, .int .i64 0, .int .i64 0, .int .i64 0, .int .i64 0, .bool false, .int .i64 0, .bool false, .bool false, .string ⟨#[]⟩, .bool false, .int .i64 0, .int .i64 0, .int .i64 0, .slice none 0 0, .nilIface] 52))) : Row wn w1.heap.size [.bool false, .slice none 0 0, .string ⟨#[]⟩, .int .i64 0, .int .i64 0, .int .i64 0, .int .i64 0, .int .i64 0, .bool false, .int .i64 0, .bool false, .bool false, .string ⟨#[]⟩, .bool false, .int .i64 0, .int .i64 0, .int .i64 0, .slice none 0 0, .nilIface] := by
  rw [h.out]; exact prow_new w1 #[.bool false, .slice none 0 0, .string ⟨#[]⟩, .int .i64 0, .int .i64 0, .int .i64 0, .int .i64 0, .int .i64 0, .bool false, .int .i64 0, .bool false, .bool false, .string ⟨#[]⟩, .bool false, .int .i64 0, .int .i64 0, .int .i64 0, .slice none 0 0, .nilIface] 52 w1.heap.size rfl
theorem rowD {wa wn : World} {b : Nat} (h : Hid (wn = wa)) (hr : Row wa b [.bool false, .slice none 0 0, .string ⟨#[]⟩, .int .i64 0, .int .i64 0, .int .i64 0, .int .i64 0, .int .i64 0, .bool false, .int .i64 0, .bool false, .bool false, .string ⟨#[]⟩, .bool false, .int .i64 0, .int .i64 0, .int .i64 0, .slice none 0 0, .nilIface]) : Row wn b [.bool false, .slice none 0 0, .string ⟨#[]⟩, .int .i64 0, .int .i64 0, .int .i64 0, .int .i64 0, .int .i64 0, .bool false, .int .i64 0, .bool false, .bool false, .string ⟨#[]⟩, .bool false, .int .i64 0, .int .i64 0, .int .i64 0, .slice none 0 0, .nilIface] := by rw [h.out]; exact hr
/-- Ahead of the machine. -/
structure RdPre (w : World) (rf : Bool) (ao : Option Addr) (n cap : Nat) (evs : List Event) (D : Int) (L : Nat) (x y : Int) (w0 : World) : Prop where
  ex : x = D
  ey : y = (L : Int)
  E : EvAt w ao evs
  hn : evs.length = n
  hnc : n ≤ cap
  hc2 : cap ≤ 9223372036854775807
  ok : WireOk ⟨rf, evs, [], D, 0⟩
  bel : Below w.heap.size w w0
  res : Row w0 (w.heap.size + 1) [.int .i64 0, .int .i64 0, .string ⟨#[]⟩, .string ⟨#[]⟩, .int .i64 0, .int .i64 0, .int .i64 0]
  sz : w0.heap.size = w.heap.size + 1 + 1
theorem RdPre.fin {w : World} {rf : Bool} {ao : Option Addr} {n cap : Nat} {evs : List Event} {D : Int} {L : Nat} {x y : Int} {w0 wc : World} (h : RdPre w rf ao n cap evs D L x y w0) (hb : Below w0.heap.size w0 wc) (hr : Row wc w0.heap.size (mCells rf ao n cap x y)) : RdSt w rf evs D L w0.heap.size wc := by
  have hb' : Below w.heap.size w wc := h.bel.trans (hb.mono (by have := h.sz; omega))
  refine ⟨⟨⟨ao, n, cap, .slice none 0 0, ?_, h.hn, h.hnc, h.hc2, h.E.below hb', fun g off e hne => ?_, Own.nil _ _, by simp [Value.ownBlock], rfl⟩, h.ok⟩, h.res.below (by simp) hb, hb', by have := h.sz; omega⟩
  · rw [h.ex, h.ey] at hr
    exact hr
  · obtain ⟨g', off', e', hg', _⟩ := h.E 0 (List.length_pos_iff.2 hne)
    rw [e] at e'
    injection e' with e'
    injection e' with e1 _ _
    have := h.sz
    rw [e1]; omega
theorem RdPre.finS {w : World} {rf : Bool} {ao : Option Addr} {n cap : Nat} {evs : List Event} {D : Int} {L : Nat} {x y x' y' : Int} {w0 W : World} (h : RdPre w rf ao n cap evs D L x y w0) (b : Nat) (hb : b = w0.heap.size) (hB : Below w0.heap.size w0 W) (hr : Row W b [.bool false, .slice none 0 0, .string ⟨#[]⟩, .int .i64 0, .int .i64 0, .int .i64 0, .int .i64 0, .int .i64 0, .bool false, .int .i64 0, .bool false, .bool false, .string ⟨#[]⟩, .bool false, .int .i64 0, .int .i64 0, .int .i64 0, .slice none 0 0, .nilIface]) (hx : Hid (x' = x)) (hy : Hid (y' = y)) : ∃ pm, Value.pointer (some ⟨b, 0, none⟩) = .pointer (some ⟨pm, 0, none⟩) ∧ Hid (RdSt w rf evs D L pm (W.setCells b 0 (mCells rf ao n cap x' y'))) := by
  subst hb
  refine ⟨_, rfl, ?_⟩
  show RdSt _ _ _ _ _ _ _
  rw [hx.out, hy.out]
  exact h.fin (hB.trans (only_keeps (only_setCells _ _ _ _) (Nat.le_refl _) (hr.lt (by simp)))) (row_setCells hr _ rfl)
theorem rdPre_new (w : World) (rf : Bool) (ao : Option Addr) (n cap : Nat) (evs : List Event) (D : Int) (L : Nat) (hE : EvAt w ao evs) (hn : evs.length = n) (hnc : n ≤ cap) (hc2 : cap ≤ 9223372036854775807) (hd : ∀ e ∈ evs, e.data.length ≤ 140737488355328) (ht : ∀ e ∈ evs, -9223372036854775808 ≤ e.ticks ∧ e.ticks ≤ 9223372036854775807) (hD0 : 0 ≤ D) (hD1 : D ≤ 100000) :
    RdPre w rf ao n cap evs D L D (L : Int) ((w.alloc (.cells #[.bool rf, .slice ao n cap] 24)).alloc (.cells #[.int .i64 0, .int .i64 0, .string ⟨#[]⟩, .string ⟨#[]⟩, .int .i64 0, .int .i64 0, .int .i64 0] 26)) :=
  ⟨rfl, rfl, hE, hn, hnc, hc2, ⟨Int.le_refl _, hD0, hD1, fun e he => ⟨hd e he, ht e he⟩, Nat.zero_le _⟩, (below_one w _).alloc (by simp) _, prow_new (w.alloc (.cells #[.bool rf, .slice ao n cap] 24)) #[.int .i64 0, .int .i64 0, .string ⟨#[]⟩, .string ⟨#[]⟩, .int .i64 0, .int .i64 0, .int .i64 0] 26 (w.heap.size + 1) (by simp), by simp⟩
end Go.Proofs.YtmodongnganbfaaGreatDoor.Rep
