/- Replies: the program's machine in memory; the wire's wait. -/
import Derived.Test.YtmodongnganbfaaGreatDoorRdHToRdT
import Derived.Test.YtmodongnganbfaaGreatDoorRdEToReadGood
namespace Go.Proofs.YtmodongnganbfaaGreatDoor.Rep
open Go.RowKit Go.Proofs.YtmodongnganbfaaGreatDoor Go.Proofs.YtmodongnganbfaaGreatDoor.Sha
/-- Events in memory. -/
def EvAt (w : World) (ao : Option Addr) (evs : List Event) : Prop := ∀ i (hi : i < evs.length), ∃ g off, ao = some ⟨g, off, none⟩ ∧ g < w.heap.size ∧ w.cell? ⟨g, off + i * 3, none⟩ = some (.int .i64 (evs[i]).ticks) ∧ w.cell? ⟨g, off + i * 3 + 1, none⟩ = some (.int .i64 (evs[i]).what) ∧ w.cell? ⟨g, off + i * 3 + 2, none⟩ = some (.string ⟨(evs[i]).data.toArray⟩)
theorem EvAt.below {w w' : World} {ao : Option Addr} {evs : List Event} (h : EvAt w ao evs) (hb : Below w.heap.size w w') : EvAt w' ao evs := by
  intro i hi
  obtain ⟨g, off, e, hg, h1, h2, h3⟩ := h i hi
  exact ⟨g, off, e, Nat.lt_of_lt_of_le hg hb.size, cell_below hb h1, cell_below hb h2, cell_below hb h3⟩
theorem EvAt.keep {w w' : World} {ao : Option Addr} {evs : List Event} {b : Nat} (h : EvAt w ao evs) (hb : Below b w w') (hg : ∀ g off, ao = some ⟨g, off, none⟩ → evs ≠ [] → g < b) : EvAt w' ao evs := by
  intro i hi
  obtain ⟨g, off, e, hl, h1, h2, h3⟩ := h i hi
  have hgb := hg g off e (List.ne_nil_of_length_pos (by omega))
  exact ⟨g, off, e, Nat.lt_of_lt_of_le hl hb.size, by rw [hb.cell (p := ⟨g, _, none⟩) hgb]; exact h1, by rw [hb.cell (p := ⟨g, _, none⟩) hgb]; exact h2, by rw [hb.cell (p := ⟨g, _, none⟩) hgb]; exact h3⟩
/-- What the program knows of a head. -/
structure Hd where
  status : Nat
  hasLength : Bool
  length : Nat
  chunked : Bool
  hasTag : Bool
  tag : Bytes
  hasRange : Bool
  first : Nat
  last : Nat
  total : Nat
def Hd.none : Hd := ⟨0, false, 0, false, false, [], false, 0, 0, 0⟩
/-- The program's machine, its error aside. -/
structure Ps where
  wire : Wire
  room : Nat
  hd : Hd
  body : Bytes
  bv : Value
def encP (limit : Nat) (ev bv err : Value) (p : Ps) : List Value :=
  [.bool p.wire.refused, ev, .string ⟨p.wire.rest.toArray⟩, .int .i64 p.wire.deadline, .int .i64 p.wire.ticks, .int .i64 (limit : Int), .int .i64 (p.room : Int), .int .i64 (p.hd.status : Int), .bool p.hd.hasLength, .int .i64 (p.hd.length : Int), .bool p.hd.chunked, .bool p.hd.hasTag, .string ⟨p.hd.tag.toArray⟩, .bool p.hd.hasRange, .int .i64 (p.hd.first : Int), .int .i64 (p.hd.last : Int), .int .i64 (p.hd.total : Int), bv, err]
/-- What holds of a wire. -/
structure WireOk (W : Wire) : Prop where
  t0 : 0 ≤ W.ticks
  tD : W.ticks ≤ W.deadline
  D : W.deadline ≤ 100000
  ev : ∀ e ∈ W.events, e.data.length ≤ 140737488355328 ∧ -9223372036854775808 ≤ e.ticks ∧ e.ticks ≤ 9223372036854775807
  rest : W.rest.length ≤ 140737488355328
/-- The program's machine at block pm. -/
structure PM (pm limit : Nat) (p : Ps) (err : Value) (w : World) : Prop where
  ex : ∃ ao n cap bv, Row w pm (encP limit (.slice ao n cap) bv err p) ∧ p.wire.events.length = n ∧ n ≤ cap ∧ cap ≤ 9223372036854775807 ∧ EvAt w ao p.wire.events ∧ (∀ g off, ao = some ⟨g, off, none⟩ → p.wire.events ≠ [] → g < pm) ∧ Own w pm bv (p.body.map u8v) ∧ (bv.ownBlock ≠ some pm ∧ bv = p.bv)
  ok : WireOk p.wire
theorem only_keeps {pm b : Nat} {w w' : World} (h : Only (· = pm) w w') (hb : b ≤ pm) (hl : pm < w.heap.size) : Below b w w' := ⟨h.os, h.tape, h.output, h.size, fun k hk => h.block k (by omega) (fun e => by have e : k = pm := e; omega)⟩
/-- A way that only sets cells of the machine's. -/
theorem PM.mk' {pm limit : Nat} {p p' : Ps} {err' : Value} {w w' : World} {ao : Option Addr} {n cap : Nat} {bv : Value} (hR : Row w' pm (encP limit (.slice ao n cap) bv err' p')) (hk : Only (· = pm) w w') (hl : pm < w.heap.size) (hn : p'.wire.events.length = n) (hc : n ≤ cap) (hc2 : cap ≤ 9223372036854775807) (hE : EvAt w ao p'.wire.events) (hg : ∀ g off, ao = some ⟨g, off, none⟩ → p'.wire.events ≠ [] → g < pm) (hB : Own w pm bv (p.body.map u8v)) (hbd : p'.body = p.body) (hbn : bv.ownBlock ≠ some pm ∧ bv = p'.bv) (hok : WireOk p'.wire) : PM pm limit p' err' w' :=
  ⟨⟨ao, n, cap, bv, hR, hn, hc, hc2, hE.keep (only_keeps hk (Nat.le_refl _) hl) hg, hg, by rw [hbd]; exact own_only' hB hk (fun g hg e => hbn.1 (by rw [hg, e])), hbn⟩, hok⟩
theorem PM.lt {pm limit : Nat} {p : Ps} {err : Value} {w : World} (h : PM pm limit p err w) : pm < w.heap.size := by
  obtain ⟨ao, n, cap, bv, hR, _⟩ := h.ex
  exact hR.lt (by simp [encP])
theorem PM.below {pm limit : Nat} {p : Ps} {err : Value} {w w' : World} (h : PM pm limit p err w) (hb : Below w.heap.size w w') : PM pm limit p err w' := by
  obtain ⟨ao, n, cap, bv, hR, hn, hc, hc2, hE, hg, hB, hbn⟩ := h.ex
  exact ⟨⟨ao, n, cap, bv, hR.below (by simp [encP]) hb, hn, hc, hc2, hE.below hb, hg, hB.step hb, hbn⟩, h.ok⟩
/-- The errors of package reply, each in a row of its own; errors.errorType. -/
structure RepW (ad : Nat → Addr) (B : Nat) (w : World) : Prop where
  refused : w.cell? ⟨12, 0, none⟩ = some (.iface 182 (.pointer (some (ad 0))))
  reset : w.cell? ⟨13, 0, none⟩ = some (.iface 182 (.pointer (some (ad 1))))
  late : w.cell? ⟨17, 0, none⟩ = some (.iface 182 (.pointer (some (ad 2))))
  closed : w.cell? ⟨2, 0, none⟩ = some (.iface 182 (.pointer (some (ad 3))))
  again : w.cell? ⟨3, 0, none⟩ = some (.iface 182 (.pointer (some (ad 4))))
  broken : w.cell? ⟨6, 0, none⟩ = some (.iface 182 (.pointer (some (ad 5))))
  byte : w.cell? ⟨5, 0, none⟩ = some (.iface 182 (.pointer (some (ad 6))))
  long : w.cell? ⟨8, 0, none⟩ = some (.iface 182 (.pointer (some (ad 7))))
  head : w.cell? ⟨1, 0, none⟩ = some (.iface 182 (.pointer (some (ad 8))))
  limit : w.cell? ⟨4, 0, none⟩ = some (.iface 182 (.pointer (some (ad 9))))
  part : w.cell? ⟨0, 0, none⟩ = some (.iface 182 (.pointer (some (ad 10))))
  twice : w.cell? ⟨9, 0, none⟩ = some (.iface 182 (.pointer (some (ad 11))))
  number : w.cell? ⟨14, 0, none⟩ = some (.iface 182 (.pointer (some (ad 12))))
  coding : w.cell? ⟨15, 0, none⟩ = some (.iface 182 (.pointer (some (ad 13))))
  span : w.cell? ⟨16, 0, none⟩ = some (.iface 182 (.pointer (some (ad 14))))
  both : w.cell? ⟨10, 0, none⟩ = some (.iface 182 (.pointer (some (ad 15))))
  noRange : w.cell? ⟨11, 0, none⟩ = some (.iface 182 (.pointer (some (ad 16))))
  typ : w.cell? ⟨7, 0, none⟩ = some (.iface 125 (.agg #[.pointer (some ⟨22, 50, none⟩)]))
  ne : ∀ i j, i < 17 → j < 17 → i ≠ j → ad i ≠ ad j
  row : ∀ i, i < 17 → (ad i).block < B ∧ ∃ c t, w.heap[(ad i).block]? = some (.cells c t (0, 0))
  ng : 22 ≤ B
theorem RepW.keep {ad : Nat → Addr} {B : Nat} {w w' : World} (h : RepW ad B w) (hb : Below B w w') : RepW ad B w' := by
  have g : ∀ k v, k < 22 → w.cell? ⟨k, 0, none⟩ = some v → w'.cell? ⟨k, 0, none⟩ = some v := fun k v hk e => by rw [hb.cell (p := ⟨k, 0, none⟩) (Nat.lt_of_lt_of_le hk h.ng)]; exact e
  exact ⟨g _ _ (by decide) h.refused, g _ _ (by decide) h.reset, g _ _ (by decide) h.late, g _ _ (by decide) h.closed, g _ _ (by decide) h.again, g _ _ (by decide) h.broken, g _ _ (by decide) h.byte, g _ _ (by decide) h.long, g _ _ (by decide) h.head, g _ _ (by decide) h.limit, g _ _ (by decide) h.part, g _ _ (by decide) h.twice, g _ _ (by decide) h.number, g _ _ (by decide) h.coding, g _ _ (by decide) h.span, g _ _ (by decide) h.both, g _ _ (by decide) h.noRange, g _ _ (by decide) h.typ, h.ne, fun i hi => ⟨(h.row i hi).1, by obtain ⟨c, t, e⟩ := (h.row i hi).2; exact ⟨c, t, by rw [hb.block _ (h.row i hi).1]; exact e⟩⟩, h.ng⟩
/-- The error value i. -/
def errV (ad : Nat → Addr) (i : Nat) : Value := .iface 182 (.pointer (some (ad i)))
set_option maxHeartbeats 2000000 in
set_option maxRecDepth 100000 in
theorem wait_late (pm limit : Nat) (p : Ps) (err : Value) (ad : Nat → Addr) (B : Nat) (tk : Int) (w : World) (h : PM pm limit p err w) (hW : RepW ad B w) (hB : B ≤ pm) (hl : p.wire.deadline - p.wire.ticks < max tk 0) :
    Calls Tryz.prog 86 #[.pointer (some ⟨pm, 0, none⟩), .int .i64 tk] w fun e w' => e = .returned (errV ad 2) ∧ PM pm limit { p with wire := { p.wire with ticks := p.wire.deadline } } err w' ∧ Only (· = pm) w w' := by
  obtain ⟨ao, n, cap, bv, hR, hn, hc, hc2, hE, hg, hO, hbn⟩ := h.ex
  have hok := h.ok
  have hlt := h.lt
  have c3 : w.cell? ⟨pm, 3, none⟩ = some (.int .i64 p.wire.deadline) := hR.cell 3 _ rfl
  have c4 : w.cell? ⟨pm, 4, none⟩ = some (.int .i64 p.wire.ticks) := hR.cell 4 _ rfl
  have f4 := hR.fro 4
  have hgl : 17 < pm := Nat.lt_of_lt_of_le (Nat.lt_of_lt_of_le (by decide) hW.ng) hB
  have e2 := hW.late
  obtain ⟨t0, tD, D1, _, _⟩ := hok
  have HK : Hid (∀ x, Only (· = pm) w ((w.drewN x).setCell ⟨pm, 4, none⟩ (.int .i64 p.wire.deadline))) := fun x => (Only.drew _ w x).trans (Only.set (S := (· = pm)) _ 4 _ rfl)
  have HF : Hid (∀ x, PM pm limit { p with wire := { p.wire with ticks := p.wire.deadline } } err ((w.drewN x).setCell ⟨pm, 4, none⟩ (.int .i64 p.wire.deadline))) := fun x => PM.mk' (p := p) (w := w) ((hR.drew x).set 4 (.int .i64 p.wire.deadline) (by simp [encP])) (HK.out x) hlt hn hc hc2 hE hg hO rfl hbn ⟨by show 0 ≤ p.wire.deadline; omega, Int.le_refl _, D1, h.ok.ev, h.ok.rest⟩
  generalize p.wire.deadline = D at *
  generalize p.wire.ticks = t at *
  clear hR hE hO h hW
  go_enter Tryz.func86, Tryz.ntmps86
  go_wp2_with fail
  go_quiet (fail)
  go_wp2
  go_ret
  exact ⟨rfl, HF.out _, HK.out _⟩
set_option maxHeartbeats 2000000 in
set_option maxRecDepth 100000 in
theorem wait_pos (pm limit : Nat) (p : Ps) (err : Value) (tk : Int) (w : World) (h : PM pm limit p err w) (hl : ¬ p.wire.deadline - p.wire.ticks < max tk 0) (hs : 0 ≤ tk) :
    Calls Tryz.prog 86 #[.pointer (some ⟨pm, 0, none⟩), .int .i64 tk] w fun e w' => e = .returned .nilIface ∧ PM pm limit { p with wire := { p.wire with ticks := p.wire.ticks + max tk 0 } } err w' ∧ Only (· = pm) w w' := by
  obtain ⟨ao, n, cap, bv, hR, hn, hc, hc2, hE, hg, hO, hbn⟩ := h.ex
  have hlt := h.lt
  have c3 : w.cell? ⟨pm, 3, none⟩ = some (.int .i64 p.wire.deadline) := hR.cell 3 _ rfl
  have c4 : w.cell? ⟨pm, 4, none⟩ = some (.int .i64 p.wire.ticks) := hR.cell 4 _ rfl
  have f4 := hR.fro 4
  obtain ⟨t0, tD, D1, _, _⟩ := h.ok
  have em : p.wire.ticks + max tk 0 = p.wire.ticks + tk := by omega
  have HK : Hid (∀ x, Only (· = pm) w ((w.drewN x).setCell ⟨pm, 4, none⟩ (.int .i64 (p.wire.ticks + tk)))) := fun x => (Only.drew _ w x).trans (Only.set (S := (· = pm)) _ 4 _ rfl)
  have HF : Hid (∀ x, PM pm limit { p with wire := { p.wire with ticks := p.wire.ticks + max tk 0 } } err ((w.drewN x).setCell ⟨pm, 4, none⟩ (.int .i64 (p.wire.ticks + tk)))) := fun x => by
    rw [em]
    exact PM.mk' (p := p) (w := w) ((hR.drew x).set 4 (.int .i64 (p.wire.ticks + tk)) (by simp [encP])) (HK.out x) hlt hn hc hc2 hE hg hO rfl hbn ⟨by show 0 ≤ p.wire.ticks + tk; omega, by show p.wire.ticks + tk ≤ p.wire.deadline; omega, D1, h.ok.ev, h.ok.rest⟩
  clear em
  generalize p.wire.deadline = D at *
  obtain ⟨t, et⟩ : ∃ t, p.wire.ticks = t := ⟨_, rfl⟩
  rw [et] at c4 t0 tD hl
  rw [et] at HK HF
  rw [et]
  clear hR hE hO h et
  go_enter Tryz.func86, Tryz.ntmps86
  go_wp2_with fail
  go_quiet (fail)
  go_wp2
  go_ret
  exact ⟨rfl, HF.out _, HK.out _⟩
set_option maxHeartbeats 2000000 in
set_option maxRecDepth 100000 in
theorem wait_neg (pm limit : Nat) (p : Ps) (err : Value) (tk : Int) (w : World) (h : PM pm limit p err w) (hs : tk < 0) :
    Calls Tryz.prog 86 #[.pointer (some ⟨pm, 0, none⟩), .int .i64 tk] w fun e w' => e = .returned .nilIface ∧ PM pm limit { p with wire := { p.wire with ticks := p.wire.ticks + max tk 0 } } err w' ∧ Only (· = pm) w w' := by
  obtain ⟨ao, n, cap, bv, hR, hn, hc, hc2, hE, hg, hO, hbn⟩ := h.ex
  have hlt := h.lt
  have c3 : w.cell? ⟨pm, 3, none⟩ = some (.int .i64 p.wire.deadline) := hR.cell 3 _ rfl
  have c4 : w.cell? ⟨pm, 4, none⟩ = some (.int .i64 p.wire.ticks) := hR.cell 4 _ rfl
  have f4 := hR.fro 4
  obtain ⟨t0, tD, D1, _, _⟩ := h.ok
  have em : p.wire.ticks + max tk 0 = p.wire.ticks := by omega
  have HK : Hid (∀ x, Only (· = pm) w ((w.drewN x).setCell ⟨pm, 4, none⟩ (.int .i64 (p.wire.ticks)))) := fun x => (Only.drew _ w x).trans (Only.set (S := (· = pm)) _ 4 _ rfl)
  have HF : Hid (∀ x, PM pm limit { p with wire := { p.wire with ticks := p.wire.ticks + max tk 0 } } err ((w.drewN x).setCell ⟨pm, 4, none⟩ (.int .i64 (p.wire.ticks)))) := fun x => by
    rw [em]
    exact PM.mk' (p := p) (w := w) ((hR.drew x).set 4 (.int .i64 (p.wire.ticks)) (by simp [encP])) (HK.out x) hlt hn hc hc2 hE hg hO rfl hbn ⟨by show 0 ≤ p.wire.ticks; omega, by show p.wire.ticks ≤ p.wire.deadline; omega, D1, h.ok.ev, h.ok.rest⟩
  clear em
  generalize p.wire.deadline = D at *
  obtain ⟨t, et⟩ : ∃ t, p.wire.ticks = t := ⟨_, rfl⟩
  rw [et] at c4 t0 tD
  rw [et] at HK HF
  rw [et]
  clear hR hE hO h et
  go_enter Tryz.func86, Tryz.ntmps86
  go_wp2_with fail
  go_quiet (fail)
  go_wp2
  go_ret
  exact ⟨rfl, HF.out _, HK.out _⟩
theorem wait_ok (pm limit : Nat) (p : Ps) (err : Value) (tk : Int) (w : World) (h : PM pm limit p err w) (hl : ¬ p.wire.deadline - p.wire.ticks < max tk 0) :
    Calls Tryz.prog 86 #[.pointer (some ⟨pm, 0, none⟩), .int .i64 tk] w fun e w' => e = .returned .nilIface ∧ PM pm limit { p with wire := { p.wire with ticks := p.wire.ticks + max tk 0 } } err w' ∧ Only (· = pm) w w' := by
  by_cases hs : 0 ≤ tk
  · exact wait_pos pm limit p err tk w h hl hs
  · exact wait_neg pm limit p err tk w h (by omega)
end Go.Proofs.YtmodongnganbfaaGreatDoor.Rep
