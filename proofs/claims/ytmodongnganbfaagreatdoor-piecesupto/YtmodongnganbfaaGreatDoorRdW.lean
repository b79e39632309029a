/- Replies: the document's Read. -/
import Derived.Test.YtmodongnganbfaaGreatDoorRdRToRdU
import Derived.Test.YtmodongnganbfaaGreatDoorRdV
import Derived.Test.YtmodongnganbfaaGreatDoorRpA
namespace Go.Proofs.YtmodongnganbfaaGreatDoor.Rep
open Go.RowKit Go.Proofs.YtmodongnganbfaaGreatDoor Go.Proofs.YtmodongnganbfaaGreatDoor.Sha
def lim (limit : Int) : Nat := (min (max limit 0) 4000).toNat
def ded (deadline : Int) : Int := min (max deadline 0) 100000
/-- What the document's Read tells. -/
def readP (rf : Bool) (evs : List Event) (deadline limit : Int) : Res := goOn (lim limit) Mc.new ⟨rf, evs, [], ded deadline, 0⟩
theorem told_any (mb limit : Nat) (o : Option Mc) (w : World) (ticks : Int) (h : Stepped mb limit o w) (hg : ∀ m, o = some m → Good limit m) :
    Calls Tryz.prog 11 #[.pointer (some ⟨mb, 0, none⟩), .int .i64 ticks] w fun e w' => e = .returned (encR (toldP ⟨o, ticks⟩)) ∧ Below w.heap.size w w' := by
  cases o with
  | none => exact told_none mb limit w ticks h
  | some m => exact told_some mb limit m w ticks h (hg m rfl).a (by have := (hg m rfl).st; omega) (fun e => (hg m rfl).h8 (by omega))
theorem bel7 {w w' : World} {rb : Nat} (h : Below w.heap.size w w') (hb : w.heap.size ≤ rb) (a b c d e f g : Value) : Below w.heap.size w (((((((w'.setCell ⟨rb, 0, none⟩ a).setCell ⟨rb, 1, none⟩ b).setCell ⟨rb, 2, none⟩ c).setCell ⟨rb, 3, none⟩ d).setCell ⟨rb, 4, none⟩ e).setCell ⟨rb, 5, none⟩ f).setCell ⟨rb, 6, none⟩ g) :=
  ((((((h.setCell (p := ⟨rb, 0, none⟩) hb a).setCell (p := ⟨rb, 1, none⟩) hb b).setCell (p := ⟨rb, 2, none⟩) hb c).setCell (p := ⟨rb, 3, none⟩) hb d).setCell (p := ⟨rb, 4, none⟩) hb e).setCell (p := ⟨rb, 5, none⟩) hb f).setCell (p := ⟨rb, 6, none⟩) hb g
theorem dm_new (w : World) (L : Nat) (t : TypeId) (w' : World) (mb : Nat) (hw : Hid (w.alloc (.cells #[.int .i64 0, .int .i64 0, .int .i64 (L : Int), .int .i64 0, .int .i64 0, .string ⟨#[]⟩, .string ⟨#[]⟩, .slice none 0 0, .slice none 0 0, .bool false, .bool false, .int .i64 0, .int .i64 0, .int .i64 0, .int .i64 0, .int .i64 0, .string ⟨#[]⟩, .string ⟨#[]⟩, .int .i64 0, .int .i64 0, .int .i64 0] t) = w')) (hm : w.heap.size = mb) : DM mb L Mc.new w' := by
  subst hm
  rw [← hw.out]
  refine ⟨⟨.slice none 0 0, .slice none 0 0, .int .i64 0, .int .i64 0, .int .i64 0, ⟨fun i v hi => ?_, fun i => by simp⟩, Own.nil _ _, Own.nil _ _, ⟨by simp [Value.ownBlock], fun _ => rfl⟩, ⟨by simp [Value.ownBlock], fun _ => rfl⟩, fun g hg => by simp [Value.ownBlock] at hg, ⟨0, rfl⟩, fun q => (by cases q.1), fun _ => ⟨rfl, rfl⟩⟩⟩
  rw [World.cell?_alloc_at _ _ _ _ rfl]
  have e : (#[Value.int .i64 0, .int .i64 0, .int .i64 (L : Int), .int .i64 0, .int .i64 0, .string ⟨#[]⟩, .string ⟨#[]⟩, .slice none 0 0, .slice none 0 0, .bool false, .bool false, .int .i64 0, .int .i64 0, .int .i64 0, .int .i64 0, .int .i64 0, .string ⟨#[]⟩, .string ⟨#[]⟩, .int .i64 0, .int .i64 0, .int .i64 0] : Array Value).toList = encM L (.slice none 0 0) (.slice none 0 0) (.int .i64 0) (.int .i64 0) (.int .i64 0) Mc.new := rfl
  rw [← e] at hi
  simpa using hi
theorem row_new (w : World) (arr : Array Value) (t : TypeId) (b : Nat) (hb : w.heap.size = b) : Row (w.alloc (.cells arr t)) b arr.toList := by
  subst hb
  refine ⟨fun i v hi => ?_, fun i => by simp⟩
  rw [World.cell?_alloc_at _ _ _ _ rfl]
  simpa using hi
/-- What the rounds over the events keep. -/
structure RInv (w : World) (L : Nat) (D : Int) (db rb mb : Nat) (ao : Option Addr) (n cap : Nat) (evs : List Event) (R : Res) (k : Nat) (t : Int) (m : Mc) (wr : World) : Prop where
  dm : DM mb L m wr
  good : Good L m
  vals : Vals m
  at' : m.at' ≤ 13
  ev : EvAt wr ao evs
  row : Row wr rb [.int .i64 0, .int .i64 0, .string ⟨#[]⟩, .string ⟨#[]⟩, .int .i64 0, .int .i64 0, .int .i64 0]
  box : Row wr db [.bool false, .slice ao n cap]
  bel : Below w.heap.size w wr
  res : R = drive L D m t (evs.drop k)
theorem DM.below {mb L : Nat} {m : Mc} {w w' : World} (h : DM mb L m w) (hb : Below w.heap.size w w') : DM mb L m w' := by
  obtain ⟨nv, vv, last, fr, tot, hR, hN, hV, n1, n2, n3, hP⟩ := h.ex
  exact ⟨⟨nv, vv, last, fr, tot, hR.below (by simp [encM]) hb, hN.step hb, hV.step hb, n1, n2, n3, hP⟩⟩
theorem DM.at0 {mb L : Nat} {m : Mc} {w : World} (h : DM mb L m w) : w.cell? ⟨mb, 0, none⟩ = some (.int .i64 (m.at' : Int)) := by
  obtain ⟨nv, vv, last, fr, tot, hR, _⟩ := h.ex
  exact hR.cell 0 _ rfl
theorem stepped0 {mb L : Nat} {w : World} (h : Stepped mb L none w) : w.cell? ⟨mb, 0, none⟩ = some (.int .i64 15) := by
  obtain ⟨m, nv, vv, last, fr, tot, hR, h15, _⟩ := h
  have q := hR.cell 0 _ rfl
  rw [h15] at q
  exact q
theorem Row.same {w w' : World} {b : Nat} {xs : List Value} (h : Row w b xs) (e : w'.heap[b]? = w.heap[b]?) : Row w' b xs :=
  ⟨fun i v hi => by rw [World.cell?_of_block (w := w) (a := ⟨b, i, none⟩) e]; exact h.cell i v hi, fun i => by rw [World.frozen?_of_block (w := w) (a := ⟨b, i, none⟩) e]; exact h.fro i⟩
theorem below_of_only' {S : Nat → Prop} {b : Nat} {w w' : World} (h : Only S w w') (hS : ∀ k, S k → b ≤ k) (hb : b ≤ w.heap.size) : Below b w w' := ⟨h.os, h.tape, h.output, h.size, fun k hk => h.block k (by omega) (fun e => by have := hS k e; omega)⟩
/-- What the rounds over an event's bytes keep. -/
structure RIn (w : World) (L db rb mb eb : Nat) (ao : Option Addr) (n cap : Nat) (evs : List Event) (et ew : Int) (sd : ByteArray) (m : Mc) (ed : Bytes) (j : Nat) (o : Option Mc) (wx : World) : Prop where
  st : Stepped mb L o wx
  good : ∀ m0, o = some m0 → Good L m0 ∧ Vals m0
  ev : EvAt wx ao evs
  row : Row wx rb [.int .i64 0, .int .i64 0, .string ⟨#[]⟩, .string ⟨#[]⟩, .int .i64 0, .int .i64 0, .int .i64 0]
  box : Row wx db [.bool false, .slice ao n cap]
  er : Row wx eb [.int .i64 et, .int .i64 ew, .string sd]
  bel : Below w.heap.size w wx
  eq : eat L m ed = o.bind fun m0 => eat L m0 (ed.drop j)
theorem Row.keep {w w' : World} {x b : Nat} {xs : List Value} (h : Row w x xs) (hb : Below b w w') (hx : x < b) : Row w' x xs :=
  ⟨fun i v hi => by rw [hb.cell (p := ⟨x, i, none⟩) hx]; exact h.cell i v hi, fun i => by rw [hb.frozen (p := ⟨x, i, none⟩) hx]; exact h.fro i⟩
set_option maxHeartbeats 8000000 in
set_option maxRecDepth 100000 in
theorem rread_walk (rfd : Bool) (ao : Option Addr) (n cap : Nat) (evs : List Event) (deadline limit : Int) (w : World) (hE : EvAt w ao evs) (hn : evs.length = n) (hn2 : n ≤ 140737488355328) (hd : ∀ e ∈ evs, e.data.length ≤ 140737488355328) (ht : ∀ e ∈ evs, -9223372036854775808 ≤ e.ticks ∧ e.ticks ≤ 9223372036854775807) :
    Calls Tryz.prog 6 #[.agg #[.bool rfd, .slice ao n cap], .int .i64 deadline, .int .i64 limit] w fun e w' => e = .returned (encR (toldP (readP rfd evs deadline limit))) ∧ Below w.heap.size w w' := by
  have W1 := fun w => within_walk deadline 100000 w (by decide)
  have W2 := fun w => within_walk limit 4000 w (by decide)
  have eL : min (max limit 0) 4000 = ((lim limit : Nat) : Int) := by unfold lim; omega
  have eLl : lim limit ≤ 4000 := by unfold lim; omega
  have eD : min (max deadline 0) 100000 = ded deadline := rfl
  have eDl : 0 ≤ ded deadline ∧ ded deadline ≤ 100000 := by unfold ded; omega
  have HRd : Hid (readP rfd evs deadline limit = goOn (lim limit) Mc.new ⟨rfd, evs, [], ded deadline, 0⟩) := rfl
  obtain ⟨R, eR⟩ : ∃ R, readP rfd evs deadline limit = R := ⟨_, rfl⟩
  rw [eR] at HRd
  rw [eR]
  simp only [eL] at W2
  simp only [eD] at W1
  clear eL eD eR
  generalize lim limit = L at *
  generalize ded deadline = D at *
  cases rfd with
  | true =>
    have HF : Hid (encR (toldP R) = .agg #[.int .i64 4, .int .i64 0, .string ⟨#[]⟩, .string ⟨#[]⟩, .int .i64 0, .int .i64 0, .int .i64 0]) := by show _ = _; rw [HRd.out]; rfl
    clear HRd hE ht hd
    go_enter Tryz.func6, Tryz.ntmps6
    go_wp2_with fail
    refine (W1 _).mono ?_
    rintro e w1 ⟨rfl, rfl⟩
    go_wp2_with fail
    refine (W2 _).mono ?_
    rintro e w2 ⟨rfl, rfl⟩
    go_wp2
    exact bodyPost_ret (v := .agg #[.int .i64 4, .int .i64 0, .string ⟨#[]⟩, .string ⟨#[]⟩, .int .i64 0, .int .i64 0, .int .i64 0]) (by simp [results, Tryz.results6, go_sem]) rfl ⟨by rw [HF.out], ((((Below.refl _ _).alloc (Nat.le_refl _) _).alloc (by simp) _).alloc (by simp; omega) _)⟩
  | false =>
    have HR0 : Hid (R = drive L D Mc.new 0 evs) := by show _ = _; rw [HRd.out]; rfl
    have Hn : Hid (evs.length = n) := hn
    have Hd : Hid (∀ e ∈ evs, e.data.length ≤ 140737488355328) := hd
    have Ht : Hid (∀ e ∈ evs, -9223372036854775808 ≤ e.ticks ∧ e.ticks ≤ 9223372036854775807) := ht
    have HE : Hid (EvAt w ao evs) := hE
    have HGs : Hid (∀ g off, ao = some ⟨g, off, none⟩ → evs ≠ [] → g < w.heap.size) := by
      intro g off e hne
      obtain ⟨g', off', e', hl, _⟩ := hE 0 (by cases evs with | nil => exact absurd rfl hne | cons a l => simp)
      rw [e] at e'
      injection e' with e'
      injection e' with e1
      omega
    obtain ⟨h0D, hD1⟩ := eDl
    clear HRd hE hd ht hn
    go_enter Tryz.func6, Tryz.ntmps6
    go_wp2_with fail
    refine (W1 _).mono ?_
    rintro e w1 ⟨rfl, rfl⟩
    go_wp2_with fail
    refine (W2 _).mono ?_
    rintro e w2 ⟨rfl, rfl⟩
    clear W1 W2
    go_wp2
    obtain ⟨w0, HW0⟩ : ∃ w0, Hid (((w.alloc (.cells #[.bool false, .slice ao n cap] 24)).alloc (.cells #[.int .i64 0, .int .i64 0, .string ⟨#[]⟩, .string ⟨#[]⟩, .int .i64 0, .int .i64 0, .int .i64 0] 26)).alloc (.cells #[.int .i64 0, .int .i64 0, .int .i64 (L : Int), .int .i64 0, .int .i64 0, .string ⟨#[]⟩, .string ⟨#[]⟩, .slice none 0 0, .slice none 0 0, .bool false, .bool false, .int .i64 0, .int .i64 0, .int .i64 0, .int .i64 0, .int .i64 0, .string ⟨#[]⟩, .string ⟨#[]⟩, .int .i64 0, .int .i64 0, .int .i64 0] 39) = w0) := ⟨_, rfl⟩
    rw [HW0.out]
    obtain ⟨mb, hmb⟩ : ∃ mb, w.heap.size + 1 + 1 = mb := ⟨_, rfl⟩
    obtain ⟨rb, hrb⟩ : ∃ rb, w.heap.size + 1 = rb := ⟨_, rfl⟩
    obtain ⟨db, hdb⟩ : ∃ db, w.heap.size = db := ⟨_, rfl⟩
    have HI0 : Hid (RInv w L D db rb mb ao n cap evs R 0 0 Mc.new w0) := by
      have hb0 : Below w.heap.size w w0 := by rw [← HW0.out]; exact ((((Below.refl _ _).alloc (Nat.le_refl _) _).alloc (by simp) _).alloc (by simp; omega) _)
      refine ⟨dm_new _ L _ _ mb HW0 (by simp; omega), good_new (by omega), (fun f hf => by cases hf), by decide, HE.out.below hb0, ?_, ?_, hb0, by rw [HR0.out]; rfl⟩
      · rw [← HW0.out]; exact ((row_new (w.alloc (.cells #[.bool false, .slice ao n cap] 24)) #[.int .i64 0, .int .i64 0, .string ⟨#[]⟩, .string ⟨#[]⟩, .int .i64 0, .int .i64 0, .int .i64 0] _ rb (by simp; omega)).alloc (by simp) _)
      · rw [← HW0.out]; exact (((row_new w #[.bool false, .slice ao n cap] _ db hdb).alloc (by simp) _).alloc (by simp) _)
    have Hdb : Hid (w.heap.size = db ∧ db < rb ∧ rb < mb) := ⟨hdb, by omega, by omega⟩
    have HRB : Hid (w.heap.size ≤ rb) := by show _ ≤ _; omega
    have HGm : Hid (∀ g off, ao = some ⟨g, off, none⟩ → evs ≠ [] → g < mb) := fun g off e hne => by have := HGs.out g off e hne; omega
    clear HW0 HR0 HE HGs
    rw [hmb, hrb, hdb]
    clear hmb hrb hdb
    go_loopw [9, 10] (fun tv iv wr => ∃ (k : Nat) (t : Int) (m : Mc), tv = .int .i64 t ∧ iv = .int .i64 (k : Int) ∧ k ≤ n ∧ 0 ≤ t ∧ t ≤ D ∧ Hid (RInv w L D db rb mb ao n cap evs R k t m wr)) (fun _ iv _ => n - (intOf iv).toNat)
    case atStart => exact ⟨0, 0, Mc.new, rfl, rfl, Nat.zero_le _, Int.le_refl _, h0D, HI0⟩
    case round =>
      obtain ⟨k, t, m, rfl, rfl, hk, ht0, htD, HI⟩ := hrel
      have d1 : wr.cell? ⟨db, 1, none⟩ = some (.slice ao n cap) := HI.out.box.cell 1 _ rfl
      by_cases hlt : k < n
      · have hlt' : (k : Int) < (n : Int) := by omega
        have hke : k < evs.length := by rw [Hn.out]; exact hlt
        obtain ⟨g, off, eao, hgl, e0, e1, e2⟩ := HI.out.ev k hke
        obtain ⟨⟨et, ew, ed⟩, he⟩ : ∃ e, evs[k] = e := ⟨_, rfl⟩
        have Hm : Hid ((⟨et, ew, ed⟩ : Event) ∈ evs) := by show _ ∈ _; rw [← he]; exact List.getElem_mem hke
        have HDr : Hid (evs.drop k = ⟨et, ew, ed⟩ :: evs.drop (k + 1)) := by show _ = _; rw [List.drop_eq_getElem_cons hke, he]
        rw [he] at e0 e1 e2
        obtain ⟨hb1, hb2⟩ := Ht.out _ Hm.out
        have hdl := Hd.out _ Hm.out
        simp only [] at e0 e1 e2 hb1 hb2 hdl
        obtain ⟨sd, esd⟩ : ∃ sd : ByteArray, sd = ⟨ed.toArray⟩ := ⟨_, rfl⟩
        have Hsd : Hid (sd.data.toList = ed) := by show _ = _; rw [esd]
        have hsdl : sd.size ≤ 140737488355328 := by rw [← size_len, Hsd.out]; exact hdl
        rw [← esd] at e2
        subst eao
        clear he hke esd hdl
        have HD : Hid (drive L D m t (evs.drop k) = (if D - t < max et 0 then ⟨some m, D⟩ else if ew = 3 ∧ m.at' = 13 then ⟨done m, t + max et 0⟩ else if ew ≠ 1 then ⟨some m, t + max et 0⟩ else match eat L m ed with | none => ⟨none, t + max et 0⟩ | some m' => if m'.at' = 14 then ⟨some m', t + max et 0⟩ else drive L D m' (t + max et 0) (evs.drop (k + 1)))) := by
          show _ = _
          rw [HDr.out]
          exact drive_cons L D m t ⟨et, ew, ed⟩ (evs.drop (k + 1))
        obtain ⟨w1, HW1⟩ : ∃ w1, Hid (wr.alloc (.cells #[.int .i64 et, .int .i64 ew, .string sd] 32) = w1) := ⟨_, rfl⟩
        obtain ⟨eb, heb⟩ : ∃ eb, wr.heap.size = eb := ⟨_, rfl⟩
        have HB1 : Hid (Below wr.heap.size wr w1) := by show Below _ _ _; rw [← HW1.out]; exact (Below.refl _ _).alloc (Nat.le_refl _) _
        have HBw : Hid (Below w.heap.size w w1) := HI.out.bel.trans (HB1.out.mono HI.out.bel.size)
        have HDM1 : Hid (DM mb L m w1) := HI.out.dm.below HB1.out
        have HRow1 : Hid (Row w1 rb [.int .i64 0, .int .i64 0, .string ⟨#[]⟩, .string ⟨#[]⟩, .int .i64 0, .int .i64 0, .int .i64 0]) := HI.out.row.below (by simp) HB1.out
        have HEr : Hid (Row w1 eb [.int .i64 et, .int .i64 ew, .string sd]) := by show Row _ _ _; rw [← HW1.out]; exact row_new wr #[.int .i64 et, .int .i64 ew, .string sd] _ eb heb
        have HGood : Hid (∀ m0, some m = some m0 → Good L m0) := fun m0 e => by injection e with e; rw [← e]; exact HI.out.good
        have HmbE : Hid (mb < eb) := by show _ < _; rw [← heb]; exact HI.out.dm.lt
        by_cases hl : D - t < et
        · go_wp2_with fail
          rw [HW1.out]
          refine (told_any mb L (some m) _ (D) HDM1.out HGood.out).mono ?_
          rintro e w9 ⟨rfl, hB9⟩
          have HB9 : Hid (Below w.heap.size w w9) := (HBw.out).trans (hB9.mono (HBw.out).size)
          have HR9 : Hid (Row w9 rb [.int .i64 0, .int .i64 0, .string ⟨#[]⟩, .string ⟨#[]⟩, .int .i64 0, .int .i64 0, .int .i64 0]) := (HRow1.out).below (by simp) hB9
          have HV : Hid (R = ⟨some m, D⟩) := by show _ = _; rw [HI.out.res, HD.out, if_pos (by omega)]
          obtain ⟨⟨rc, rs, rg, ry, rf, rt, rk⟩, hr⟩ : ∃ r, toldP ⟨some m, D⟩ = r := ⟨_, rfl⟩
          have HF : Hid (encR (toldP R) = .agg #[.int .i64 (rc : Int), .int .i64 (rs : Int), .string ⟨rg.toArray⟩, .string ⟨ry.toArray⟩, .int .i64 (rf : Int), .int .i64 (rt : Int), .int .i64 rk]) := by show _ = _; rw [HV.out, hr]; rfl
          rw [hr]
          simp only [encR]
          have r0 : w9.cell? ⟨rb, 0, none⟩ = some (.int .i64 0) := HR9.out.cell 0 _ rfl
          have z0 := HR9.out.fro 0
          have r1 : w9.cell? ⟨rb, 1, none⟩ = some (.int .i64 0) := HR9.out.cell 1 _ rfl
          have z1 := HR9.out.fro 1
          have r2 : w9.cell? ⟨rb, 2, none⟩ = some (.string ⟨#[]⟩) := HR9.out.cell 2 _ rfl
          have z2 := HR9.out.fro 2
          have r3 : w9.cell? ⟨rb, 3, none⟩ = some (.string ⟨#[]⟩) := HR9.out.cell 3 _ rfl
          have z3 := HR9.out.fro 3
          have r4 : w9.cell? ⟨rb, 4, none⟩ = some (.int .i64 0) := HR9.out.cell 4 _ rfl
          have z4 := HR9.out.fro 4
          have r5 : w9.cell? ⟨rb, 5, none⟩ = some (.int .i64 0) := HR9.out.cell 5 _ rfl
          have z5 := HR9.out.fro 5
          have r6 : w9.cell? ⟨rb, 6, none⟩ = some (.int .i64 0) := HR9.out.cell 6 _ rfl
          have z6 := HR9.out.fro 6
          clear hB9 hr HR9 HV
          go_wp2
          exact bodyPost_ret (v := .agg #[.int .i64 (rc : Int), .int .i64 (rs : Int), .string ⟨rg.toArray⟩, .string ⟨ry.toArray⟩, .int .i64 (rf : Int), .int .i64 (rt : Int), .int .i64 rk]) (by simp [results, Tryz.results6, go_sem, r0, r1, r2, r3, r4, r5, r6]) rfl ⟨by rw [HF.out], bel7 HB9.out HRB.out _ _ _ _ _ _ _⟩
        · by_cases hp : 0 < et
          · have tpe : t + et ≤ D := by omega
            have HN : Hid (¬ D - t < max et 0) := by show ¬ _; omega
            have Htp : Hid (t + max et 0 = t + et) := by show _ = _; omega
            have htp0 : 0 ≤ t + et := by omega
            have cm0 : wr.cell? ⟨mb, 0, none⟩ = some (.int .i64 (m.at' : Int)) := HI.out.dm.at0
            have hml : mb < eb := HmbE.out
            have HRs : Hid (R = (if ew = 3 ∧ m.at' = 13 then ⟨done m, t + et⟩ else if ew ≠ 1 then ⟨some m, t + et⟩ else match eat L m ed with | none => ⟨none, t + et⟩ | some m' => if m'.at' = 14 then ⟨some m', t + et⟩ else drive L D m' (t + et) (evs.drop (k + 1)))) := by show _ = _; rw [HI.out.res, HD.out, if_neg HN.out, Htp.out]
            by_cases w3 : ew = 3
            · have bw3 : (ew == 3) = true := by rw [w3]; rfl
              have bw1 : (ew != 1) = true := by rw [w3]; rfl
              by_cases a13 : m.at' = 13
              · have ba : ((m.at' : Int) == 13) = true := by rw [a13]; rfl
                have HRz : Hid (R = ⟨done m, t + et⟩) := by show _ = _; rw [HRs.out, if_pos ⟨w3, a13⟩]
                have HDn := done_walk mb L m w1 HDM1.out (HI.out.good.h8 (by omega)) (by have := HI.out.good.bl; omega)
                have HGd : Hid (∀ m0, done m = some m0 → Good L m0) := fun m0 e => done_good HI.out.good (HI.out.good.h8 (by omega)) e
                clear w3 a13
                go_wp2_with fail
                rw [HW1.out]
                refine HDn.mono ?_
                rintro e w2 ⟨rfl, hS2, hO2⟩
                have HS2 : Hid (Stepped mb L (done m) w2) := hS2
                have HEr2 : Hid (Row w2 eb [.int .i64 et, .int .i64 ew, .string sd]) := HEr.out.only (by simp) hO2 (fun e => by have := HmbE.out; have e : eb = mb := e; omega)
                have HRow2 : Hid (Row w2 rb [.int .i64 0, .int .i64 0, .string ⟨#[]⟩, .string ⟨#[]⟩, .int .i64 0, .int .i64 0, .int .i64 0]) := HRow1.out.only (by simp) hO2 (fun e => by have := Hdb.out; have e : rb = mb := e; omega)
                have HBw2 : Hid (Below w.heap.size w w2) := HBw.out.trans (below_of_only' hO2 (fun x hx => by have := Hdb.out; have hx : x = mb := hx; omega) HBw.out.size)
                have y1 : w2.cell? ⟨eb, 1, none⟩ = some (.int .i64 ew) := HEr2.out.cell 1 _ rfl
                clear hS2 hO2 HDn
                go_wp2_with fail
                refine (told_any mb L (done m) _ (t + et) HS2.out HGd.out).mono ?_
                rintro e w9 ⟨rfl, hB9⟩
                have HB9 : Hid (Below w.heap.size w w9) := (HBw2.out).trans (hB9.mono (HBw2.out).size)
                have HR9 : Hid (Row w9 rb [.int .i64 0, .int .i64 0, .string ⟨#[]⟩, .string ⟨#[]⟩, .int .i64 0, .int .i64 0, .int .i64 0]) := (HRow2.out).below (by simp) hB9
                have HV : Hid (R = ⟨done m, t + et⟩) := HRz.out
                obtain ⟨⟨rc, rs, rg, ry, rf, rt, rk⟩, hr⟩ : ∃ r, toldP ⟨done m, t + et⟩ = r := ⟨_, rfl⟩
                have HF : Hid (encR (toldP R) = .agg #[.int .i64 (rc : Int), .int .i64 (rs : Int), .string ⟨rg.toArray⟩, .string ⟨ry.toArray⟩, .int .i64 (rf : Int), .int .i64 (rt : Int), .int .i64 rk]) := by show _ = _; rw [HV.out, hr]; rfl
                rw [hr]
                simp only [encR]
                have r0 : w9.cell? ⟨rb, 0, none⟩ = some (.int .i64 0) := HR9.out.cell 0 _ rfl
                have z0 := HR9.out.fro 0
                have r1 : w9.cell? ⟨rb, 1, none⟩ = some (.int .i64 0) := HR9.out.cell 1 _ rfl
                have z1 := HR9.out.fro 1
                have r2 : w9.cell? ⟨rb, 2, none⟩ = some (.string ⟨#[]⟩) := HR9.out.cell 2 _ rfl
                have z2 := HR9.out.fro 2
                have r3 : w9.cell? ⟨rb, 3, none⟩ = some (.string ⟨#[]⟩) := HR9.out.cell 3 _ rfl
                have z3 := HR9.out.fro 3
                have r4 : w9.cell? ⟨rb, 4, none⟩ = some (.int .i64 0) := HR9.out.cell 4 _ rfl
                have z4 := HR9.out.fro 4
                have r5 : w9.cell? ⟨rb, 5, none⟩ = some (.int .i64 0) := HR9.out.cell 5 _ rfl
                have z5 := HR9.out.fro 5
                have r6 : w9.cell? ⟨rb, 6, none⟩ = some (.int .i64 0) := HR9.out.cell 6 _ rfl
                have z6 := HR9.out.fro 6
                clear hB9 hr HR9 HV
                go_wp2
                exact bodyPost_ret (v := .agg #[.int .i64 (rc : Int), .int .i64 (rs : Int), .string ⟨rg.toArray⟩, .string ⟨ry.toArray⟩, .int .i64 (rf : Int), .int .i64 (rt : Int), .int .i64 rk]) (by simp [results, Tryz.results6, go_sem, r0, r1, r2, r3, r4, r5, r6]) rfl ⟨by rw [HF.out], bel7 HB9.out HRB.out _ _ _ _ _ _ _⟩
              · have ba : ((m.at' : Int) == 13) = false := by rw [beq_eq_false_iff_ne]; omega
                have HRz : Hid (R = ⟨some m, t + et⟩) := by show _ = _; rw [HRs.out, if_neg (fun q => a13 q.2), if_pos (by omega)]
                clear w3 a13
                go_wp2_with fail
                rw [HW1.out]
                refine (told_any mb L (some m) _ (t + et) HDM1.out HGood.out).mono ?_
                rintro e w9 ⟨rfl, hB9⟩
                have HB9 : Hid (Below w.heap.size w w9) := (HBw.out).trans (hB9.mono (HBw.out).size)
                have HR9 : Hid (Row w9 rb [.int .i64 0, .int .i64 0, .string ⟨#[]⟩, .string ⟨#[]⟩, .int .i64 0, .int .i64 0, .int .i64 0]) := (HRow1.out).below (by simp) hB9
                have HV : Hid (R = ⟨some m, t + et⟩) := HRz.out
                obtain ⟨⟨rc, rs, rg, ry, rf, rt, rk⟩, hr⟩ : ∃ r, toldP ⟨some m, t + et⟩ = r := ⟨_, rfl⟩
                have HF : Hid (encR (toldP R) = .agg #[.int .i64 (rc : Int), .int .i64 (rs : Int), .string ⟨rg.toArray⟩, .string ⟨ry.toArray⟩, .int .i64 (rf : Int), .int .i64 (rt : Int), .int .i64 rk]) := by show _ = _; rw [HV.out, hr]; rfl
                rw [hr]
                simp only [encR]
                have r0 : w9.cell? ⟨rb, 0, none⟩ = some (.int .i64 0) := HR9.out.cell 0 _ rfl
                have z0 := HR9.out.fro 0
                have r1 : w9.cell? ⟨rb, 1, none⟩ = some (.int .i64 0) := HR9.out.cell 1 _ rfl
                have z1 := HR9.out.fro 1
                have r2 : w9.cell? ⟨rb, 2, none⟩ = some (.string ⟨#[]⟩) := HR9.out.cell 2 _ rfl
                have z2 := HR9.out.fro 2
                have r3 : w9.cell? ⟨rb, 3, none⟩ = some (.string ⟨#[]⟩) := HR9.out.cell 3 _ rfl
                have z3 := HR9.out.fro 3
                have r4 : w9.cell? ⟨rb, 4, none⟩ = some (.int .i64 0) := HR9.out.cell 4 _ rfl
                have z4 := HR9.out.fro 4
                have r5 : w9.cell? ⟨rb, 5, none⟩ = some (.int .i64 0) := HR9.out.cell 5 _ rfl
                have z5 := HR9.out.fro 5
                have r6 : w9.cell? ⟨rb, 6, none⟩ = some (.int .i64 0) := HR9.out.cell 6 _ rfl
                have z6 := HR9.out.fro 6
                clear hB9 hr HR9 HV
                go_wp2
                exact bodyPost_ret (v := .agg #[.int .i64 (rc : Int), .int .i64 (rs : Int), .string ⟨rg.toArray⟩, .string ⟨ry.toArray⟩, .int .i64 (rf : Int), .int .i64 (rt : Int), .int .i64 rk]) (by simp [results, Tryz.results6, go_sem, r0, r1, r2, r3, r4, r5, r6]) rfl ⟨by rw [HF.out], bel7 HB9.out HRB.out _ _ _ _ _ _ _⟩
            · have bw3 : (ew == 3) = false := by rw [beq_eq_false_iff_ne]; exact w3
              by_cases w1e : ew = 1
              · have bw1 : (ew != 1) = false := by rw [w1e]; rfl
                have HRz : Hid (R = match eat L m ed with | none => ⟨none, t + et⟩ | some m' => if m'.at' = 14 then ⟨some m', t + et⟩ else drive L D m' (t + et) (evs.drop (k + 1))) := by show _ = _; rw [HRs.out, if_neg (fun q => w3 q.1), if_neg (by omega)]
                have HIn0 : Hid (RIn w L db rb mb eb (some ⟨g, off, none⟩) n cap evs et ew sd m ed 0 (some m) w1) := ⟨HDM1.out, fun m0 e => by injection e with e; rw [← e]; exact ⟨HI.out.good, HI.out.vals⟩, HI.out.ev.below HB1.out, HRow1.out, HI.out.box.below (by simp) HB1.out, HEr.out, HBw.out, by rw [List.drop_zero]; rfl⟩
                clear w3 w1e HRs HD
                go_wp2
                rw [HW1.out]
                go_loopw [12] (fun jv wx => ∃ (j : Nat) (o : Option Mc), jv = .int .i64 (j : Int) ∧ j ≤ sd.size ∧ Hid (RIn w L db rb mb eb (some ⟨g, off, none⟩) n cap evs et ew sd m ed j o wx)) (fun jv _ => sd.size - (intOf jv).toNat)
                case atStart => exact ⟨0, some m, rfl, Nat.zero_le _, HIn0⟩
                case round =>
                  obtain ⟨j, o, rfl, hj, HJ⟩ := hrel
                  have y2 : wr.cell? ⟨eb, 2, none⟩ = some (.string sd) := HJ.out.er.cell 2 _ rfl
                  cases o with
                  | none =>
                    have x0 : wr.cell? ⟨mb, 0, none⟩ = some (.int .i64 15) := stepped0 HJ.out.st
                    have HRn : Hid (R = ⟨none, t + et⟩) := by show _ = _; rw [HRz.out, HJ.out.eq]; rfl
                    have HGn : Hid (∀ m0, (none : Option Mc) = some m0 → Good L m0) := fun m0 e => by cases e
                    by_cases hjl : j < sd.size
                    · have hjl' : (j : Int) < (sd.size : Int) := by omega
                      go_wp2_with fail
                      refine (told_any mb L (none) _ (t + et) HJ.out.st HGn.out).mono ?_
                      rintro e w9 ⟨rfl, hB9⟩
                      have HB9 : Hid (Below w.heap.size w w9) := (HJ.out.bel).trans (hB9.mono (HJ.out.bel).size)
                      have HR9 : Hid (Row w9 rb [.int .i64 0, .int .i64 0, .string ⟨#[]⟩, .string ⟨#[]⟩, .int .i64 0, .int .i64 0, .int .i64 0]) := (HJ.out.row).below (by simp) hB9
                      have HV : Hid (R = ⟨none, t + et⟩) := HRn.out
                      obtain ⟨⟨rc, rs, rg, ry, rf, rt, rk⟩, hr⟩ : ∃ r, toldP ⟨none, t + et⟩ = r := ⟨_, rfl⟩
                      have HF : Hid (encR (toldP R) = .agg #[.int .i64 (rc : Int), .int .i64 (rs : Int), .string ⟨rg.toArray⟩, .string ⟨ry.toArray⟩, .int .i64 (rf : Int), .int .i64 (rt : Int), .int .i64 rk]) := by show _ = _; rw [HV.out, hr]; rfl
                      rw [hr]
                      simp only [encR]
                      have r0 : w9.cell? ⟨rb, 0, none⟩ = some (.int .i64 0) := HR9.out.cell 0 _ rfl
                      have z0 := HR9.out.fro 0
                      have r1 : w9.cell? ⟨rb, 1, none⟩ = some (.int .i64 0) := HR9.out.cell 1 _ rfl
                      have z1 := HR9.out.fro 1
                      have r2 : w9.cell? ⟨rb, 2, none⟩ = some (.string ⟨#[]⟩) := HR9.out.cell 2 _ rfl
                      have z2 := HR9.out.fro 2
                      have r3 : w9.cell? ⟨rb, 3, none⟩ = some (.string ⟨#[]⟩) := HR9.out.cell 3 _ rfl
                      have z3 := HR9.out.fro 3
                      have r4 : w9.cell? ⟨rb, 4, none⟩ = some (.int .i64 0) := HR9.out.cell 4 _ rfl
                      have z4 := HR9.out.fro 4
                      have r5 : w9.cell? ⟨rb, 5, none⟩ = some (.int .i64 0) := HR9.out.cell 5 _ rfl
                      have z5 := HR9.out.fro 5
                      have r6 : w9.cell? ⟨rb, 6, none⟩ = some (.int .i64 0) := HR9.out.cell 6 _ rfl
                      have z6 := HR9.out.fro 6
                      clear hB9 hr HR9 HV
                      go_wp2
                      exact bodyPost_ret (v := .agg #[.int .i64 (rc : Int), .int .i64 (rs : Int), .string ⟨rg.toArray⟩, .string ⟨ry.toArray⟩, .int .i64 (rf : Int), .int .i64 (rt : Int), .int .i64 rk]) (by simp [results, Tryz.results6, go_sem, r0, r1, r2, r3, r4, r5, r6]) rfl ⟨by rw [HF.out], bel7 HB9.out HRB.out _ _ _ _ _ _ _⟩
                    · have hjl' : ¬ (j : Int) < (sd.size : Int) := by omega
                      go_wp2_with fail
                      refine (told_any mb L (none) _ (t + et) HJ.out.st HGn.out).mono ?_
                      rintro e w9 ⟨rfl, hB9⟩
                      have HB9 : Hid (Below w.heap.size w w9) := (HJ.out.bel).trans (hB9.mono (HJ.out.bel).size)
                      have HR9 : Hid (Row w9 rb [.int .i64 0, .int .i64 0, .string ⟨#[]⟩, .string ⟨#[]⟩, .int .i64 0, .int .i64 0, .int .i64 0]) := (HJ.out.row).below (by simp) hB9
                      have HV : Hid (R = ⟨none, t + et⟩) := HRn.out
                      obtain ⟨⟨rc, rs, rg, ry, rf, rt, rk⟩, hr⟩ : ∃ r, toldP ⟨none, t + et⟩ = r := ⟨_, rfl⟩
                      have HF : Hid (encR (toldP R) = .agg #[.int .i64 (rc : Int), .int .i64 (rs : Int), .string ⟨rg.toArray⟩, .string ⟨ry.toArray⟩, .int .i64 (rf : Int), .int .i64 (rt : Int), .int .i64 rk]) := by show _ = _; rw [HV.out, hr]; rfl
                      rw [hr]
                      simp only [encR]
                      have r0 : w9.cell? ⟨rb, 0, none⟩ = some (.int .i64 0) := HR9.out.cell 0 _ rfl
                      have z0 := HR9.out.fro 0
                      have r1 : w9.cell? ⟨rb, 1, none⟩ = some (.int .i64 0) := HR9.out.cell 1 _ rfl
                      have z1 := HR9.out.fro 1
                      have r2 : w9.cell? ⟨rb, 2, none⟩ = some (.string ⟨#[]⟩) := HR9.out.cell 2 _ rfl
                      have z2 := HR9.out.fro 2
                      have r3 : w9.cell? ⟨rb, 3, none⟩ = some (.string ⟨#[]⟩) := HR9.out.cell 3 _ rfl
                      have z3 := HR9.out.fro 3
                      have r4 : w9.cell? ⟨rb, 4, none⟩ = some (.int .i64 0) := HR9.out.cell 4 _ rfl
                      have z4 := HR9.out.fro 4
                      have r5 : w9.cell? ⟨rb, 5, none⟩ = some (.int .i64 0) := HR9.out.cell 5 _ rfl
                      have z5 := HR9.out.fro 5
                      have r6 : w9.cell? ⟨rb, 6, none⟩ = some (.int .i64 0) := HR9.out.cell 6 _ rfl
                      have z6 := HR9.out.fro 6
                      clear hB9 hr HR9 HV
                      go_wp2
                      exact bodyPost_ret (v := .agg #[.int .i64 (rc : Int), .int .i64 (rs : Int), .string ⟨rg.toArray⟩, .string ⟨ry.toArray⟩, .int .i64 (rf : Int), .int .i64 (rt : Int), .int .i64 rk]) (by simp [results, Tryz.results6, go_sem, r0, r1, r2, r3, r4, r5, r6]) rfl ⟨by rw [HF.out], bel7 HB9.out HRB.out _ _ _ _ _ _ _⟩
                  | some m0 =>
                    have x0 : wr.cell? ⟨mb, 0, none⟩ = some (.int .i64 (m0.at' : Int)) := DM.at0 HJ.out.st
                    obtain ⟨hg0, hv0⟩ := HJ.out.good m0 rfl
                    have ha0 := hg0.a
                    by_cases a14 : m0.at' = 14
                    · have c14 : ¬ (m0.at' : Int) < 14 := by omega
                      have c14' : (14 : Int) ≤ (m0.at' : Int) := by omega
                      have HRn : Hid (R = ⟨some m0, t + et⟩) := by show _ = _; rw [HRz.out, HJ.out.eq, Option.bind_some, eat_end _ a14]; simp only []; rw [if_pos a14]
                      have HGn : Hid (∀ m1, some m0 = some m1 → Good L m1) := fun m1 e => by injection e with e; rw [← e]; exact (HJ.out.good m0 rfl).1
                      clear a14 hg0 hv0
                      by_cases hjl : j < sd.size
                      · have hjl' : (j : Int) < (sd.size : Int) := by omega
                        go_wp2_with fail
                        refine (told_any mb L (some m0) _ (t + et) HJ.out.st HGn.out).mono ?_
                        rintro e w9 ⟨rfl, hB9⟩
                        have HB9 : Hid (Below w.heap.size w w9) := (HJ.out.bel).trans (hB9.mono (HJ.out.bel).size)
                        have HR9 : Hid (Row w9 rb [.int .i64 0, .int .i64 0, .string ⟨#[]⟩, .string ⟨#[]⟩, .int .i64 0, .int .i64 0, .int .i64 0]) := (HJ.out.row).below (by simp) hB9
                        have HV : Hid (R = ⟨some m0, t + et⟩) := HRn.out
                        obtain ⟨⟨rc, rs, rg, ry, rf, rt, rk⟩, hr⟩ : ∃ r, toldP ⟨some m0, t + et⟩ = r := ⟨_, rfl⟩
                        have HF : Hid (encR (toldP R) = .agg #[.int .i64 (rc : Int), .int .i64 (rs : Int), .string ⟨rg.toArray⟩, .string ⟨ry.toArray⟩, .int .i64 (rf : Int), .int .i64 (rt : Int), .int .i64 rk]) := by show _ = _; rw [HV.out, hr]; rfl
                        rw [hr]
                        simp only [encR]
                        have r0 : w9.cell? ⟨rb, 0, none⟩ = some (.int .i64 0) := HR9.out.cell 0 _ rfl
                        have z0 := HR9.out.fro 0
                        have r1 : w9.cell? ⟨rb, 1, none⟩ = some (.int .i64 0) := HR9.out.cell 1 _ rfl
                        have z1 := HR9.out.fro 1
                        have r2 : w9.cell? ⟨rb, 2, none⟩ = some (.string ⟨#[]⟩) := HR9.out.cell 2 _ rfl
                        have z2 := HR9.out.fro 2
                        have r3 : w9.cell? ⟨rb, 3, none⟩ = some (.string ⟨#[]⟩) := HR9.out.cell 3 _ rfl
                        have z3 := HR9.out.fro 3
                        have r4 : w9.cell? ⟨rb, 4, none⟩ = some (.int .i64 0) := HR9.out.cell 4 _ rfl
                        have z4 := HR9.out.fro 4
                        have r5 : w9.cell? ⟨rb, 5, none⟩ = some (.int .i64 0) := HR9.out.cell 5 _ rfl
                        have z5 := HR9.out.fro 5
                        have r6 : w9.cell? ⟨rb, 6, none⟩ = some (.int .i64 0) := HR9.out.cell 6 _ rfl
                        have z6 := HR9.out.fro 6
                        clear hB9 hr HR9 HV
                        go_wp2
                        exact bodyPost_ret (v := .agg #[.int .i64 (rc : Int), .int .i64 (rs : Int), .string ⟨rg.toArray⟩, .string ⟨ry.toArray⟩, .int .i64 (rf : Int), .int .i64 (rt : Int), .int .i64 rk]) (by simp [results, Tryz.results6, go_sem, r0, r1, r2, r3, r4, r5, r6]) rfl ⟨by rw [HF.out], bel7 HB9.out HRB.out _ _ _ _ _ _ _⟩
                      · have hjl' : ¬ (j : Int) < (sd.size : Int) := by omega
                        go_wp2_with fail
                        refine (told_any mb L (some m0) _ (t + et) HJ.out.st HGn.out).mono ?_
                        rintro e w9 ⟨rfl, hB9⟩
                        have HB9 : Hid (Below w.heap.size w w9) := (HJ.out.bel).trans (hB9.mono (HJ.out.bel).size)
                        have HR9 : Hid (Row w9 rb [.int .i64 0, .int .i64 0, .string ⟨#[]⟩, .string ⟨#[]⟩, .int .i64 0, .int .i64 0, .int .i64 0]) := (HJ.out.row).below (by simp) hB9
                        have HV : Hid (R = ⟨some m0, t + et⟩) := HRn.out
                        obtain ⟨⟨rc, rs, rg, ry, rf, rt, rk⟩, hr⟩ : ∃ r, toldP ⟨some m0, t + et⟩ = r := ⟨_, rfl⟩
                        have HF : Hid (encR (toldP R) = .agg #[.int .i64 (rc : Int), .int .i64 (rs : Int), .string ⟨rg.toArray⟩, .string ⟨ry.toArray⟩, .int .i64 (rf : Int), .int .i64 (rt : Int), .int .i64 rk]) := by show _ = _; rw [HV.out, hr]; rfl
                        rw [hr]
                        simp only [encR]
                        have r0 : w9.cell? ⟨rb, 0, none⟩ = some (.int .i64 0) := HR9.out.cell 0 _ rfl
                        have z0 := HR9.out.fro 0
                        have r1 : w9.cell? ⟨rb, 1, none⟩ = some (.int .i64 0) := HR9.out.cell 1 _ rfl
                        have z1 := HR9.out.fro 1
                        have r2 : w9.cell? ⟨rb, 2, none⟩ = some (.string ⟨#[]⟩) := HR9.out.cell 2 _ rfl
                        have z2 := HR9.out.fro 2
                        have r3 : w9.cell? ⟨rb, 3, none⟩ = some (.string ⟨#[]⟩) := HR9.out.cell 3 _ rfl
                        have z3 := HR9.out.fro 3
                        have r4 : w9.cell? ⟨rb, 4, none⟩ = some (.int .i64 0) := HR9.out.cell 4 _ rfl
                        have z4 := HR9.out.fro 4
                        have r5 : w9.cell? ⟨rb, 5, none⟩ = some (.int .i64 0) := HR9.out.cell 5 _ rfl
                        have z5 := HR9.out.fro 5
                        have r6 : w9.cell? ⟨rb, 6, none⟩ = some (.int .i64 0) := HR9.out.cell 6 _ rfl
                        have z6 := HR9.out.fro 6
                        clear hB9 hr HR9 HV
                        go_wp2
                        exact bodyPost_ret (v := .agg #[.int .i64 (rc : Int), .int .i64 (rs : Int), .string ⟨rg.toArray⟩, .string ⟨ry.toArray⟩, .int .i64 (rf : Int), .int .i64 (rt : Int), .int .i64 rk]) (by simp [results, Tryz.results6, go_sem, r0, r1, r2, r3, r4, r5, r6]) rfl ⟨by rw [HF.out], bel7 HB9.out HRB.out _ _ _ _ _ _ _⟩
                    · have c14 : (m0.at' : Int) < 14 := by omega
                      have c14' : ¬ (14 : Int) ≤ (m0.at' : Int) := by omega
                      by_cases hjl : j < sd.size
                      · have hjl' : (j : Int) < (sd.size : Int) := by omega
                        have HFd := feed_walk mb L m0 sd[j] wr HJ.out.st hg0 hv0 (by omega)
                        have HA14 : Hid (m0.at' ≠ 14) := a14
                        have HDj : Hid (ed.drop j = sd[j] :: ed.drop (j + 1)) := by show _ = _; rw [← Hsd.out]; exact drop_at sd j hjl
                        clear a14 hg0 hv0
                        go_wp2_with fail
                        refine HFd.mono ?_
                        rintro e w3 ⟨rfl, hS3, hF3⟩
                        have HIn1 : Hid (RIn w L db rb mb eb (some ⟨g, off, none⟩) n cap evs et ew sd m ed (j + 1) (feed L m0 sd[j]) w3) := by
                          have hne : evs ≠ [] := List.ne_nil_of_mem Hm.out
                          have hebl : eb < wr.heap.size := HJ.out.er.lt (by simp)
                          have hee := hF3.ints eb hebl (by have := HmbE.out; omega) ⟨et, HJ.out.er.cell 0 _ rfl⟩
                          refine ⟨hS3, fun m1 e => ⟨feed_good (HJ.out.good m0 rfl).1 e, feed_vals (HJ.out.good m0 rfl).1 (HJ.out.good m0 rfl).2 e⟩, HJ.out.ev.keep hF3.below (fun g' off' e _ => HGm.out g' off' e hne), HJ.out.row.keep hF3.below (by have := Hdb.out; omega), HJ.out.box.keep hF3.below (by have := Hdb.out; omega), HJ.out.er.same hee, HJ.out.bel.trans (hF3.below.mono (by have := Hdb.out; omega)), ?_⟩
                          have q := HJ.out.eq
                          rw [q, Option.bind_some, HDj.out, eat_cons HA14.out]
                        clear hS3 hF3 HFd
                        go_wp2
                        go_roundw
                        case rel => exact ⟨j + 1, _, by go_num, by omega, HIn1⟩
                        case measure => simp [intOf]; omega
                      · have hjl' : ¬ (j : Int) < (sd.size : Int) := by omega
                        have HI1 : Hid (RInv w L D db rb mb (some ⟨g, off, none⟩) n cap evs R (k + 1) (t + et) m0 wr) := by
                          refine ⟨HJ.out.st, hg0, hv0, by omega, HJ.out.ev, HJ.out.row, HJ.out.box, HJ.out.bel, ?_⟩
                          have q := HJ.out.eq
                          have e : ed.drop j = [] := List.drop_of_length_le (by rw [← Hsd.out, size_len]; omega)
                          rw [Option.bind_some, e] at q
                          rw [HRz.out, q, eat]
                          simp only []
                          rw [if_neg a14]
                        clear a14 hg0 hv0
                        go_wp2
                        go_roundw
                        case rel => exact ⟨k + 1, t + et, m0, rfl, by go_num, by omega, htp0, tpe, HI1⟩
                        case measure => simp [intOf]; omega
              · have bw1 : (ew != 1) = true := by rw [bne_iff_ne]; exact w1e
                have HRz : Hid (R = ⟨some m, t + et⟩) := by show _ = _; rw [HRs.out, if_neg (fun q => w3 q.1), if_pos w1e]
                clear w3 w1e
                go_wp2_with fail
                rw [HW1.out]
                refine (told_any mb L (some m) _ (t + et) HDM1.out HGood.out).mono ?_
                rintro e w9 ⟨rfl, hB9⟩
                have HB9 : Hid (Below w.heap.size w w9) := (HBw.out).trans (hB9.mono (HBw.out).size)
                have HR9 : Hid (Row w9 rb [.int .i64 0, .int .i64 0, .string ⟨#[]⟩, .string ⟨#[]⟩, .int .i64 0, .int .i64 0, .int .i64 0]) := (HRow1.out).below (by simp) hB9
                have HV : Hid (R = ⟨some m, t + et⟩) := HRz.out
                obtain ⟨⟨rc, rs, rg, ry, rf, rt, rk⟩, hr⟩ : ∃ r, toldP ⟨some m, t + et⟩ = r := ⟨_, rfl⟩
                have HF : Hid (encR (toldP R) = .agg #[.int .i64 (rc : Int), .int .i64 (rs : Int), .string ⟨rg.toArray⟩, .string ⟨ry.toArray⟩, .int .i64 (rf : Int), .int .i64 (rt : Int), .int .i64 rk]) := by show _ = _; rw [HV.out, hr]; rfl
                rw [hr]
                simp only [encR]
                have r0 : w9.cell? ⟨rb, 0, none⟩ = some (.int .i64 0) := HR9.out.cell 0 _ rfl
                have z0 := HR9.out.fro 0
                have r1 : w9.cell? ⟨rb, 1, none⟩ = some (.int .i64 0) := HR9.out.cell 1 _ rfl
                have z1 := HR9.out.fro 1
                have r2 : w9.cell? ⟨rb, 2, none⟩ = some (.string ⟨#[]⟩) := HR9.out.cell 2 _ rfl
                have z2 := HR9.out.fro 2
                have r3 : w9.cell? ⟨rb, 3, none⟩ = some (.string ⟨#[]⟩) := HR9.out.cell 3 _ rfl
                have z3 := HR9.out.fro 3
                have r4 : w9.cell? ⟨rb, 4, none⟩ = some (.int .i64 0) := HR9.out.cell 4 _ rfl
                have z4 := HR9.out.fro 4
                have r5 : w9.cell? ⟨rb, 5, none⟩ = some (.int .i64 0) := HR9.out.cell 5 _ rfl
                have z5 := HR9.out.fro 5
                have r6 : w9.cell? ⟨rb, 6, none⟩ = some (.int .i64 0) := HR9.out.cell 6 _ rfl
                have z6 := HR9.out.fro 6
                clear hB9 hr HR9 HV
                go_wp2
                exact bodyPost_ret (v := .agg #[.int .i64 (rc : Int), .int .i64 (rs : Int), .string ⟨rg.toArray⟩, .string ⟨ry.toArray⟩, .int .i64 (rf : Int), .int .i64 (rt : Int), .int .i64 rk]) (by simp [results, Tryz.results6, go_sem, r0, r1, r2, r3, r4, r5, r6]) rfl ⟨by rw [HF.out], bel7 HB9.out HRB.out _ _ _ _ _ _ _⟩
          · have tpe : t ≤ D := htD
            have HN : Hid (¬ D - t < max et 0) := by show ¬ _; omega
            have Htp : Hid (t + max et 0 = t) := by show _ = _; omega
            have htp0 : 0 ≤ t := by omega
            have cm0 : wr.cell? ⟨mb, 0, none⟩ = some (.int .i64 (m.at' : Int)) := HI.out.dm.at0
            have hml : mb < eb := HmbE.out
            have HRs : Hid (R = (if ew = 3 ∧ m.at' = 13 then ⟨done m, t⟩ else if ew ≠ 1 then ⟨some m, t⟩ else match eat L m ed with | none => ⟨none, t⟩ | some m' => if m'.at' = 14 then ⟨some m', t⟩ else drive L D m' (t) (evs.drop (k + 1)))) := by show _ = _; rw [HI.out.res, HD.out, if_neg HN.out, Htp.out]
            by_cases w3 : ew = 3
            · have bw3 : (ew == 3) = true := by rw [w3]; rfl
              have bw1 : (ew != 1) = true := by rw [w3]; rfl
              by_cases a13 : m.at' = 13
              · have ba : ((m.at' : Int) == 13) = true := by rw [a13]; rfl
                have HRz : Hid (R = ⟨done m, t⟩) := by show _ = _; rw [HRs.out, if_pos ⟨w3, a13⟩]
                have HDn := done_walk mb L m w1 HDM1.out (HI.out.good.h8 (by omega)) (by have := HI.out.good.bl; omega)
                have HGd : Hid (∀ m0, done m = some m0 → Good L m0) := fun m0 e => done_good HI.out.good (HI.out.good.h8 (by omega)) e
                clear w3 a13
                go_wp2_with fail
                rw [HW1.out]
                refine HDn.mono ?_
                rintro e w2 ⟨rfl, hS2, hO2⟩
                have HS2 : Hid (Stepped mb L (done m) w2) := hS2
                have HEr2 : Hid (Row w2 eb [.int .i64 et, .int .i64 ew, .string sd]) := HEr.out.only (by simp) hO2 (fun e => by have := HmbE.out; have e : eb = mb := e; omega)
                have HRow2 : Hid (Row w2 rb [.int .i64 0, .int .i64 0, .string ⟨#[]⟩, .string ⟨#[]⟩, .int .i64 0, .int .i64 0, .int .i64 0]) := HRow1.out.only (by simp) hO2 (fun e => by have := Hdb.out; have e : rb = mb := e; omega)
                have HBw2 : Hid (Below w.heap.size w w2) := HBw.out.trans (below_of_only' hO2 (fun x hx => by have := Hdb.out; have hx : x = mb := hx; omega) HBw.out.size)
                have y1 : w2.cell? ⟨eb, 1, none⟩ = some (.int .i64 ew) := HEr2.out.cell 1 _ rfl
                clear hS2 hO2 HDn
                go_wp2_with fail
                refine (told_any mb L (done m) _ (t) HS2.out HGd.out).mono ?_
                rintro e w9 ⟨rfl, hB9⟩
                have HB9 : Hid (Below w.heap.size w w9) := (HBw2.out).trans (hB9.mono (HBw2.out).size)
                have HR9 : Hid (Row w9 rb [.int .i64 0, .int .i64 0, .string ⟨#[]⟩, .string ⟨#[]⟩, .int .i64 0, .int .i64 0, .int .i64 0]) := (HRow2.out).below (by simp) hB9
                have HV : Hid (R = ⟨done m, t⟩) := HRz.out
                obtain ⟨⟨rc, rs, rg, ry, rf, rt, rk⟩, hr⟩ : ∃ r, toldP ⟨done m, t⟩ = r := ⟨_, rfl⟩
                have HF : Hid (encR (toldP R) = .agg #[.int .i64 (rc : Int), .int .i64 (rs : Int), .string ⟨rg.toArray⟩, .string ⟨ry.toArray⟩, .int .i64 (rf : Int), .int .i64 (rt : Int), .int .i64 rk]) := by show _ = _; rw [HV.out, hr]; rfl
                rw [hr]
                simp only [encR]
                have r0 : w9.cell? ⟨rb, 0, none⟩ = some (.int .i64 0) := HR9.out.cell 0 _ rfl
                have z0 := HR9.out.fro 0
                have r1 : w9.cell? ⟨rb, 1, none⟩ = some (.int .i64 0) := HR9.out.cell 1 _ rfl
                have z1 := HR9.out.fro 1
                have r2 : w9.cell? ⟨rb, 2, none⟩ = some (.string ⟨#[]⟩) := HR9.out.cell 2 _ rfl
                have z2 := HR9.out.fro 2
                have r3 : w9.cell? ⟨rb, 3, none⟩ = some (.string ⟨#[]⟩) := HR9.out.cell 3 _ rfl
                have z3 := HR9.out.fro 3
                have r4 : w9.cell? ⟨rb, 4, none⟩ = some (.int .i64 0) := HR9.out.cell 4 _ rfl
                have z4 := HR9.out.fro 4
                have r5 : w9.cell? ⟨rb, 5, none⟩ = some (.int .i64 0) := HR9.out.cell 5 _ rfl
                have z5 := HR9.out.fro 5
                have r6 : w9.cell? ⟨rb, 6, none⟩ = some (.int .i64 0) := HR9.out.cell 6 _ rfl
                have z6 := HR9.out.fro 6
                clear hB9 hr HR9 HV
                go_wp2
                exact bodyPost_ret (v := .agg #[.int .i64 (rc : Int), .int .i64 (rs : Int), .string ⟨rg.toArray⟩, .string ⟨ry.toArray⟩, .int .i64 (rf : Int), .int .i64 (rt : Int), .int .i64 rk]) (by simp [results, Tryz.results6, go_sem, r0, r1, r2, r3, r4, r5, r6]) rfl ⟨by rw [HF.out], bel7 HB9.out HRB.out _ _ _ _ _ _ _⟩
              · have ba : ((m.at' : Int) == 13) = false := by rw [beq_eq_false_iff_ne]; omega
                have HRz : Hid (R = ⟨some m, t⟩) := by show _ = _; rw [HRs.out, if_neg (fun q => a13 q.2), if_pos (by omega)]
                clear w3 a13
                go_wp2_with fail
                rw [HW1.out]
                refine (told_any mb L (some m) _ (t) HDM1.out HGood.out).mono ?_
                rintro e w9 ⟨rfl, hB9⟩
                have HB9 : Hid (Below w.heap.size w w9) := (HBw.out).trans (hB9.mono (HBw.out).size)
                have HR9 : Hid (Row w9 rb [.int .i64 0, .int .i64 0, .string ⟨#[]⟩, .string ⟨#[]⟩, .int .i64 0, .int .i64 0, .int .i64 0]) := (HRow1.out).below (by simp) hB9
                have HV : Hid (R = ⟨some m, t⟩) := HRz.out
                obtain ⟨⟨rc, rs, rg, ry, rf, rt, rk⟩, hr⟩ : ∃ r, toldP ⟨some m, t⟩ = r := ⟨_, rfl⟩
                have HF : Hid (encR (toldP R) = .agg #[.int .i64 (rc : Int), .int .i64 (rs : Int), .string ⟨rg.toArray⟩, .string ⟨ry.toArray⟩, .int .i64 (rf : Int), .int .i64 (rt : Int), .int .i64 rk]) := by show _ = _; rw [HV.out, hr]; rfl
                rw [hr]
                simp only [encR]
                have r0 : w9.cell? ⟨rb, 0, none⟩ = some (.int .i64 0) := HR9.out.cell 0 _ rfl
                have z0 := HR9.out.fro 0
                have r1 : w9.cell? ⟨rb, 1, none⟩ = some (.int .i64 0) := HR9.out.cell 1 _ rfl
                have z1 := HR9.out.fro 1
                have r2 : w9.cell? ⟨rb, 2, none⟩ = some (.string ⟨#[]⟩) := HR9.out.cell 2 _ rfl
                have z2 := HR9.out.fro 2
                have r3 : w9.cell? ⟨rb, 3, none⟩ = some (.string ⟨#[]⟩) := HR9.out.cell 3 _ rfl
                have z3 := HR9.out.fro 3
                have r4 : w9.cell? ⟨rb, 4, none⟩ = some (.int .i64 0) := HR9.out.cell 4 _ rfl
                have z4 := HR9.out.fro 4
                have r5 : w9.cell? ⟨rb, 5, none⟩ = some (.int .i64 0) := HR9.out.cell 5 _ rfl
                have z5 := HR9.out.fro 5
                have r6 : w9.cell? ⟨rb, 6, none⟩ = some (.int .i64 0) := HR9.out.cell 6 _ rfl
                have z6 := HR9.out.fro 6
                clear hB9 hr HR9 HV
                go_wp2
                exact bodyPost_ret (v := .agg #[.int .i64 (rc : Int), .int .i64 (rs : Int), .string ⟨rg.toArray⟩, .string ⟨ry.toArray⟩, .int .i64 (rf : Int), .int .i64 (rt : Int), .int .i64 rk]) (by simp [results, Tryz.results6, go_sem, r0, r1, r2, r3, r4, r5, r6]) rfl ⟨by rw [HF.out], bel7 HB9.out HRB.out _ _ _ _ _ _ _⟩
            · have bw3 : (ew == 3) = false := by rw [beq_eq_false_iff_ne]; exact w3
              by_cases w1e : ew = 1
              · have bw1 : (ew != 1) = false := by rw [w1e]; rfl
                have HRz : Hid (R = match eat L m ed with | none => ⟨none, t⟩ | some m' => if m'.at' = 14 then ⟨some m', t⟩ else drive L D m' (t) (evs.drop (k + 1))) := by show _ = _; rw [HRs.out, if_neg (fun q => w3 q.1), if_neg (by omega)]
                have HIn0 : Hid (RIn w L db rb mb eb (some ⟨g, off, none⟩) n cap evs et ew sd m ed 0 (some m) w1) := ⟨HDM1.out, fun m0 e => by injection e with e; rw [← e]; exact ⟨HI.out.good, HI.out.vals⟩, HI.out.ev.below HB1.out, HRow1.out, HI.out.box.below (by simp) HB1.out, HEr.out, HBw.out, by rw [List.drop_zero]; rfl⟩
                clear w3 w1e HRs HD
                go_wp2
                rw [HW1.out]
                go_loopw [12] (fun jv wx => ∃ (j : Nat) (o : Option Mc), jv = .int .i64 (j : Int) ∧ j ≤ sd.size ∧ Hid (RIn w L db rb mb eb (some ⟨g, off, none⟩) n cap evs et ew sd m ed j o wx)) (fun jv _ => sd.size - (intOf jv).toNat)
                case atStart => exact ⟨0, some m, rfl, Nat.zero_le _, HIn0⟩
                case round =>
                  obtain ⟨j, o, rfl, hj, HJ⟩ := hrel
                  have y2 : wr.cell? ⟨eb, 2, none⟩ = some (.string sd) := HJ.out.er.cell 2 _ rfl
                  cases o with
                  | none =>
                    have x0 : wr.cell? ⟨mb, 0, none⟩ = some (.int .i64 15) := stepped0 HJ.out.st
                    have HRn : Hid (R = ⟨none, t⟩) := by show _ = _; rw [HRz.out, HJ.out.eq]; rfl
                    have HGn : Hid (∀ m0, (none : Option Mc) = some m0 → Good L m0) := fun m0 e => by cases e
                    by_cases hjl : j < sd.size
                    · have hjl' : (j : Int) < (sd.size : Int) := by omega
                      go_wp2_with fail
                      refine (told_any mb L (none) _ (t) HJ.out.st HGn.out).mono ?_
                      rintro e w9 ⟨rfl, hB9⟩
                      have HB9 : Hid (Below w.heap.size w w9) := (HJ.out.bel).trans (hB9.mono (HJ.out.bel).size)
                      have HR9 : Hid (Row w9 rb [.int .i64 0, .int .i64 0, .string ⟨#[]⟩, .string ⟨#[]⟩, .int .i64 0, .int .i64 0, .int .i64 0]) := (HJ.out.row).below (by simp) hB9
                      have HV : Hid (R = ⟨none, t⟩) := HRn.out
                      obtain ⟨⟨rc, rs, rg, ry, rf, rt, rk⟩, hr⟩ : ∃ r, toldP ⟨none, t⟩ = r := ⟨_, rfl⟩
                      have HF : Hid (encR (toldP R) = .agg #[.int .i64 (rc : Int), .int .i64 (rs : Int), .string ⟨rg.toArray⟩, .string ⟨ry.toArray⟩, .int .i64 (rf : Int), .int .i64 (rt : Int), .int .i64 rk]) := by show _ = _; rw [HV.out, hr]; rfl
                      rw [hr]
                      simp only [encR]
                      have r0 : w9.cell? ⟨rb, 0, none⟩ = some (.int .i64 0) := HR9.out.cell 0 _ rfl
                      have z0 := HR9.out.fro 0
                      have r1 : w9.cell? ⟨rb, 1, none⟩ = some (.int .i64 0) := HR9.out.cell 1 _ rfl
                      have z1 := HR9.out.fro 1
                      have r2 : w9.cell? ⟨rb, 2, none⟩ = some (.string ⟨#[]⟩) := HR9.out.cell 2 _ rfl
                      have z2 := HR9.out.fro 2
                      have r3 : w9.cell? ⟨rb, 3, none⟩ = some (.string ⟨#[]⟩) := HR9.out.cell 3 _ rfl
                      have z3 := HR9.out.fro 3
                      have r4 : w9.cell? ⟨rb, 4, none⟩ = some (.int .i64 0) := HR9.out.cell 4 _ rfl
                      have z4 := HR9.out.fro 4
                      have r5 : w9.cell? ⟨rb, 5, none⟩ = some (.int .i64 0) := HR9.out.cell 5 _ rfl
                      have z5 := HR9.out.fro 5
                      have r6 : w9.cell? ⟨rb, 6, none⟩ = some (.int .i64 0) := HR9.out.cell 6 _ rfl
                      have z6 := HR9.out.fro 6
                      clear hB9 hr HR9 HV
                      go_wp2
                      exact bodyPost_ret (v := .agg #[.int .i64 (rc : Int), .int .i64 (rs : Int), .string ⟨rg.toArray⟩, .string ⟨ry.toArray⟩, .int .i64 (rf : Int), .int .i64 (rt : Int), .int .i64 rk]) (by simp [results, Tryz.results6, go_sem, r0, r1, r2, r3, r4, r5, r6]) rfl ⟨by rw [HF.out], bel7 HB9.out HRB.out _ _ _ _ _ _ _⟩
                    · have hjl' : ¬ (j : Int) < (sd.size : Int) := by omega
                      go_wp2_with fail
                      refine (told_any mb L (none) _ (t) HJ.out.st HGn.out).mono ?_
                      rintro e w9 ⟨rfl, hB9⟩
                      have HB9 : Hid (Below w.heap.size w w9) := (HJ.out.bel).trans (hB9.mono (HJ.out.bel).size)
                      have HR9 : Hid (Row w9 rb [.int .i64 0, .int .i64 0, .string ⟨#[]⟩, .string ⟨#[]⟩, .int .i64 0, .int .i64 0, .int .i64 0]) := (HJ.out.row).below (by simp) hB9
                      have HV : Hid (R = ⟨none, t⟩) := HRn.out
                      obtain ⟨⟨rc, rs, rg, ry, rf, rt, rk⟩, hr⟩ : ∃ r, toldP ⟨none, t⟩ = r := ⟨_, rfl⟩
                      have HF : Hid (encR (toldP R) = .agg #[.int .i64 (rc : Int), .int .i64 (rs : Int), .string ⟨rg.toArray⟩, .string ⟨ry.toArray⟩, .int .i64 (rf : Int), .int .i64 (rt : Int), .int .i64 rk]) := by show _ = _; rw [HV.out, hr]; rfl
                      rw [hr]
                      simp only [encR]
                      have r0 : w9.cell? ⟨rb, 0, none⟩ = some (.int .i64 0) := HR9.out.cell 0 _ rfl
                      have z0 := HR9.out.fro 0
                      have r1 : w9.cell? ⟨rb, 1, none⟩ = some (.int .i64 0) := HR9.out.cell 1 _ rfl
                      have z1 := HR9.out.fro 1
                      have r2 : w9.cell? ⟨rb, 2, none⟩ = some (.string ⟨#[]⟩) := HR9.out.cell 2 _ rfl
                      have z2 := HR9.out.fro 2
                      have r3 : w9.cell? ⟨rb, 3, none⟩ = some (.string ⟨#[]⟩) := HR9.out.cell 3 _ rfl
                      have z3 := HR9.out.fro 3
                      have r4 : w9.cell? ⟨rb, 4, none⟩ = some (.int .i64 0) := HR9.out.cell 4 _ rfl
                      have z4 := HR9.out.fro 4
                      have r5 : w9.cell? ⟨rb, 5, none⟩ = some (.int .i64 0) := HR9.out.cell 5 _ rfl
                      have z5 := HR9.out.fro 5
                      have r6 : w9.cell? ⟨rb, 6, none⟩ = some (.int .i64 0) := HR9.out.cell 6 _ rfl
                      have z6 := HR9.out.fro 6
                      clear hB9 hr HR9 HV
                      go_wp2
                      exact bodyPost_ret (v := .agg #[.int .i64 (rc : Int), .int .i64 (rs : Int), .string ⟨rg.toArray⟩, .string ⟨ry.toArray⟩, .int .i64 (rf : Int), .int .i64 (rt : Int), .int .i64 rk]) (by simp [results, Tryz.results6, go_sem, r0, r1, r2, r3, r4, r5, r6]) rfl ⟨by rw [HF.out], bel7 HB9.out HRB.out _ _ _ _ _ _ _⟩
                  | some m0 =>
                    have x0 : wr.cell? ⟨mb, 0, none⟩ = some (.int .i64 (m0.at' : Int)) := DM.at0 HJ.out.st
                    obtain ⟨hg0, hv0⟩ := HJ.out.good m0 rfl
                    have ha0 := hg0.a
                    by_cases a14 : m0.at' = 14
                    · have c14 : ¬ (m0.at' : Int) < 14 := by omega
                      have c14' : (14 : Int) ≤ (m0.at' : Int) := by omega
                      have HRn : Hid (R = ⟨some m0, t⟩) := by show _ = _; rw [HRz.out, HJ.out.eq, Option.bind_some, eat_end _ a14]; simp only []; rw [if_pos a14]
                      have HGn : Hid (∀ m1, some m0 = some m1 → Good L m1) := fun m1 e => by injection e with e; rw [← e]; exact (HJ.out.good m0 rfl).1
                      clear a14 hg0 hv0
                      by_cases hjl : j < sd.size
                      · have hjl' : (j : Int) < (sd.size : Int) := by omega
                        go_wp2_with fail
                        refine (told_any mb L (some m0) _ (t) HJ.out.st HGn.out).mono ?_
                        rintro e w9 ⟨rfl, hB9⟩
                        have HB9 : Hid (Below w.heap.size w w9) := (HJ.out.bel).trans (hB9.mono (HJ.out.bel).size)
                        have HR9 : Hid (Row w9 rb [.int .i64 0, .int .i64 0, .string ⟨#[]⟩, .string ⟨#[]⟩, .int .i64 0, .int .i64 0, .int .i64 0]) := (HJ.out.row).below (by simp) hB9
                        have HV : Hid (R = ⟨some m0, t⟩) := HRn.out
                        obtain ⟨⟨rc, rs, rg, ry, rf, rt, rk⟩, hr⟩ : ∃ r, toldP ⟨some m0, t⟩ = r := ⟨_, rfl⟩
                        have HF : Hid (encR (toldP R) = .agg #[.int .i64 (rc : Int), .int .i64 (rs : Int), .string ⟨rg.toArray⟩, .string ⟨ry.toArray⟩, .int .i64 (rf : Int), .int .i64 (rt : Int), .int .i64 rk]) := by show _ = _; rw [HV.out, hr]; rfl
                        rw [hr]
                        simp only [encR]
                        have r0 : w9.cell? ⟨rb, 0, none⟩ = some (.int .i64 0) := HR9.out.cell 0 _ rfl
                        have z0 := HR9.out.fro 0
                        have r1 : w9.cell? ⟨rb, 1, none⟩ = some (.int .i64 0) := HR9.out.cell 1 _ rfl
                        have z1 := HR9.out.fro 1
                        have r2 : w9.cell? ⟨rb, 2, none⟩ = some (.string ⟨#[]⟩) := HR9.out.cell 2 _ rfl
                        have z2 := HR9.out.fro 2
                        have r3 : w9.cell? ⟨rb, 3, none⟩ = some (.string ⟨#[]⟩) := HR9.out.cell 3 _ rfl
                        have z3 := HR9.out.fro 3
                        have r4 : w9.cell? ⟨rb, 4, none⟩ = some (.int .i64 0) := HR9.out.cell 4 _ rfl
                        have z4 := HR9.out.fro 4
                        have r5 : w9.cell? ⟨rb, 5, none⟩ = some (.int .i64 0) := HR9.out.cell 5 _ rfl
                        have z5 := HR9.out.fro 5
                        have r6 : w9.cell? ⟨rb, 6, none⟩ = some (.int .i64 0) := HR9.out.cell 6 _ rfl
                        have z6 := HR9.out.fro 6
                        clear hB9 hr HR9 HV
                        go_wp2
                        exact bodyPost_ret (v := .agg #[.int .i64 (rc : Int), .int .i64 (rs : Int), .string ⟨rg.toArray⟩, .string ⟨ry.toArray⟩, .int .i64 (rf : Int), .int .i64 (rt : Int), .int .i64 rk]) (by simp [results, Tryz.results6, go_sem, r0, r1, r2, r3, r4, r5, r6]) rfl ⟨by rw [HF.out], bel7 HB9.out HRB.out _ _ _ _ _ _ _⟩
                      · have hjl' : ¬ (j : Int) < (sd.size : Int) := by omega
                        go_wp2_with fail
                        refine (told_any mb L (some m0) _ (t) HJ.out.st HGn.out).mono ?_
                        rintro e w9 ⟨rfl, hB9⟩
                        have HB9 : Hid (Below w.heap.size w w9) := (HJ.out.bel).trans (hB9.mono (HJ.out.bel).size)
                        have HR9 : Hid (Row w9 rb [.int .i64 0, .int .i64 0, .string ⟨#[]⟩, .string ⟨#[]⟩, .int .i64 0, .int .i64 0, .int .i64 0]) := (HJ.out.row).below (by simp) hB9
                        have HV : Hid (R = ⟨some m0, t⟩) := HRn.out
                        obtain ⟨⟨rc, rs, rg, ry, rf, rt, rk⟩, hr⟩ : ∃ r, toldP ⟨some m0, t⟩ = r := ⟨_, rfl⟩
                        have HF : Hid (encR (toldP R) = .agg #[.int .i64 (rc : Int), .int .i64 (rs : Int), .string ⟨rg.toArray⟩, .string ⟨ry.toArray⟩, .int .i64 (rf : Int), .int .i64 (rt : Int), .int .i64 rk]) := by show _ = _; rw [HV.out, hr]; rfl
                        rw [hr]
                        simp only [encR]
                        have r0 : w9.cell? ⟨rb, 0, none⟩ = some (.int .i64 0) := HR9.out.cell 0 _ rfl
                        have z0 := HR9.out.fro 0
                        have r1 : w9.cell? ⟨rb, 1, none⟩ = some (.int .i64 0) := HR9.out.cell 1 _ rfl
                        have z1 := HR9.out.fro 1
                        have r2 : w9.cell? ⟨rb, 2, none⟩ = some (.string ⟨#[]⟩) := HR9.out.cell 2 _ rfl
                        have z2 := HR9.out.fro 2
                        have r3 : w9.cell? ⟨rb, 3, none⟩ = some (.string ⟨#[]⟩) := HR9.out.cell 3 _ rfl
                        have z3 := HR9.out.fro 3
                        have r4 : w9.cell? ⟨rb, 4, none⟩ = some (.int .i64 0) := HR9.out.cell 4 _ rfl
                        have z4 := HR9.out.fro 4
                        have r5 : w9.cell? ⟨rb, 5, none⟩ = some (.int .i64 0) := HR9.out.cell 5 _ rfl
                        have z5 := HR9.out.fro 5
                        have r6 : w9.cell? ⟨rb, 6, none⟩ = some (.int .i64 0) := HR9.out.cell 6 _ rfl
                        have z6 := HR9.out.fro 6
                        clear hB9 hr HR9 HV
                        go_wp2
                        exact bodyPost_ret (v := .agg #[.int .i64 (rc : Int), .int .i64 (rs : Int), .string ⟨rg.toArray⟩, .string ⟨ry.toArray⟩, .int .i64 (rf : Int), .int .i64 (rt : Int), .int .i64 rk]) (by simp [results, Tryz.results6, go_sem, r0, r1, r2, r3, r4, r5, r6]) rfl ⟨by rw [HF.out], bel7 HB9.out HRB.out _ _ _ _ _ _ _⟩
                    · have c14 : (m0.at' : Int) < 14 := by omega
                      have c14' : ¬ (14 : Int) ≤ (m0.at' : Int) := by omega
                      by_cases hjl : j < sd.size
                      · have hjl' : (j : Int) < (sd.size : Int) := by omega
                        have HFd := feed_walk mb L m0 sd[j] wr HJ.out.st hg0 hv0 (by omega)
                        have HA14 : Hid (m0.at' ≠ 14) := a14
                        have HDj : Hid (ed.drop j = sd[j] :: ed.drop (j + 1)) := by show _ = _; rw [← Hsd.out]; exact drop_at sd j hjl
                        clear a14 hg0 hv0
                        go_wp2_with fail
                        refine HFd.mono ?_
                        rintro e w3 ⟨rfl, hS3, hF3⟩
                        have HIn1 : Hid (RIn w L db rb mb eb (some ⟨g, off, none⟩) n cap evs et ew sd m ed (j + 1) (feed L m0 sd[j]) w3) := by
                          have hne : evs ≠ [] := List.ne_nil_of_mem Hm.out
                          have hebl : eb < wr.heap.size := HJ.out.er.lt (by simp)
                          have hee := hF3.ints eb hebl (by have := HmbE.out; omega) ⟨et, HJ.out.er.cell 0 _ rfl⟩
                          refine ⟨hS3, fun m1 e => ⟨feed_good (HJ.out.good m0 rfl).1 e, feed_vals (HJ.out.good m0 rfl).1 (HJ.out.good m0 rfl).2 e⟩, HJ.out.ev.keep hF3.below (fun g' off' e _ => HGm.out g' off' e hne), HJ.out.row.keep hF3.below (by have := Hdb.out; omega), HJ.out.box.keep hF3.below (by have := Hdb.out; omega), HJ.out.er.same hee, HJ.out.bel.trans (hF3.below.mono (by have := Hdb.out; omega)), ?_⟩
                          have q := HJ.out.eq
                          rw [q, Option.bind_some, HDj.out, eat_cons HA14.out]
                        clear hS3 hF3 HFd
                        go_wp2
                        go_roundw
                        case rel => exact ⟨j + 1, _, by go_num, by omega, HIn1⟩
                        case measure => simp [intOf]; omega
                      · have hjl' : ¬ (j : Int) < (sd.size : Int) := by omega
                        have HI1 : Hid (RInv w L D db rb mb (some ⟨g, off, none⟩) n cap evs R (k + 1) (t) m0 wr) := by
                          refine ⟨HJ.out.st, hg0, hv0, by omega, HJ.out.ev, HJ.out.row, HJ.out.box, HJ.out.bel, ?_⟩
                          have q := HJ.out.eq
                          have e : ed.drop j = [] := List.drop_of_length_le (by rw [← Hsd.out, size_len]; omega)
                          rw [Option.bind_some, e] at q
                          rw [HRz.out, q, eat]
                          simp only []
                          rw [if_neg a14]
                        clear a14 hg0 hv0
                        go_wp2
                        go_roundw
                        case rel => exact ⟨k + 1, t, m0, rfl, by go_num, by omega, htp0, tpe, HI1⟩
                        case measure => simp [intOf]; omega
              · have bw1 : (ew != 1) = true := by rw [bne_iff_ne]; exact w1e
                have HRz : Hid (R = ⟨some m, t⟩) := by show _ = _; rw [HRs.out, if_neg (fun q => w3 q.1), if_pos w1e]
                clear w3 w1e
                go_wp2_with fail
                rw [HW1.out]
                refine (told_any mb L (some m) _ (t) HDM1.out HGood.out).mono ?_
                rintro e w9 ⟨rfl, hB9⟩
                have HB9 : Hid (Below w.heap.size w w9) := (HBw.out).trans (hB9.mono (HBw.out).size)
                have HR9 : Hid (Row w9 rb [.int .i64 0, .int .i64 0, .string ⟨#[]⟩, .string ⟨#[]⟩, .int .i64 0, .int .i64 0, .int .i64 0]) := (HRow1.out).below (by simp) hB9
                have HV : Hid (R = ⟨some m, t⟩) := HRz.out
                obtain ⟨⟨rc, rs, rg, ry, rf, rt, rk⟩, hr⟩ : ∃ r, toldP ⟨some m, t⟩ = r := ⟨_, rfl⟩
                have HF : Hid (encR (toldP R) = .agg #[.int .i64 (rc : Int), .int .i64 (rs : Int), .string ⟨rg.toArray⟩, .string ⟨ry.toArray⟩, .int .i64 (rf : Int), .int .i64 (rt : Int), .int .i64 rk]) := by show _ = _; rw [HV.out, hr]; rfl
                rw [hr]
                simp only [encR]
                have r0 : w9.cell? ⟨rb, 0, none⟩ = some (.int .i64 0) := HR9.out.cell 0 _ rfl
                have z0 := HR9.out.fro 0
                have r1 : w9.cell? ⟨rb, 1, none⟩ = some (.int .i64 0) := HR9.out.cell 1 _ rfl
                have z1 := HR9.out.fro 1
                have r2 : w9.cell? ⟨rb, 2, none⟩ = some (.string ⟨#[]⟩) := HR9.out.cell 2 _ rfl
                have z2 := HR9.out.fro 2
                have r3 : w9.cell? ⟨rb, 3, none⟩ = some (.string ⟨#[]⟩) := HR9.out.cell 3 _ rfl
                have z3 := HR9.out.fro 3
                have r4 : w9.cell? ⟨rb, 4, none⟩ = some (.int .i64 0) := HR9.out.cell 4 _ rfl
                have z4 := HR9.out.fro 4
                have r5 : w9.cell? ⟨rb, 5, none⟩ = some (.int .i64 0) := HR9.out.cell 5 _ rfl
                have z5 := HR9.out.fro 5
                have r6 : w9.cell? ⟨rb, 6, none⟩ = some (.int .i64 0) := HR9.out.cell 6 _ rfl
                have z6 := HR9.out.fro 6
                clear hB9 hr HR9 HV
                go_wp2
                exact bodyPost_ret (v := .agg #[.int .i64 (rc : Int), .int .i64 (rs : Int), .string ⟨rg.toArray⟩, .string ⟨ry.toArray⟩, .int .i64 (rf : Int), .int .i64 (rt : Int), .int .i64 rk]) (by simp [results, Tryz.results6, go_sem, r0, r1, r2, r3, r4, r5, r6]) rfl ⟨by rw [HF.out], bel7 HB9.out HRB.out _ _ _ _ _ _ _⟩
      · have hlt' : ¬ (k : Int) < (n : Int) := by omega
        have HRe : Hid (R = ⟨some m, t⟩) := by
          have e : evs.drop k = [] := List.drop_of_length_le (by rw [Hn.out]; omega)
          have := HI.out.res
          rw [e] at this
          exact this
        have HGood : Hid (∀ m0, some m = some m0 → Good L m0) := fun m0 e => by injection e with e; rw [← e]; exact HI.out.good
        go_wp2_with fail
        refine (told_any mb L (some m) _ (t) HI.out.dm HGood.out).mono ?_
        rintro e w9 ⟨rfl, hB9⟩
        have HB9 : Hid (Below w.heap.size w w9) := (HI.out.bel).trans (hB9.mono (HI.out.bel).size)
        have HR9 : Hid (Row w9 rb [.int .i64 0, .int .i64 0, .string ⟨#[]⟩, .string ⟨#[]⟩, .int .i64 0, .int .i64 0, .int .i64 0]) := (HI.out.row).below (by simp) hB9
        have HV : Hid (R = ⟨some m, t⟩) := HRe.out
        obtain ⟨⟨rc, rs, rg, ry, rf, rt, rk⟩, hr⟩ : ∃ r, toldP ⟨some m, t⟩ = r := ⟨_, rfl⟩
        have HF : Hid (encR (toldP R) = .agg #[.int .i64 (rc : Int), .int .i64 (rs : Int), .string ⟨rg.toArray⟩, .string ⟨ry.toArray⟩, .int .i64 (rf : Int), .int .i64 (rt : Int), .int .i64 rk]) := by show _ = _; rw [HV.out, hr]; rfl
        rw [hr]
        simp only [encR]
        have r0 : w9.cell? ⟨rb, 0, none⟩ = some (.int .i64 0) := HR9.out.cell 0 _ rfl
        have z0 := HR9.out.fro 0
        have r1 : w9.cell? ⟨rb, 1, none⟩ = some (.int .i64 0) := HR9.out.cell 1 _ rfl
        have z1 := HR9.out.fro 1
        have r2 : w9.cell? ⟨rb, 2, none⟩ = some (.string ⟨#[]⟩) := HR9.out.cell 2 _ rfl
        have z2 := HR9.out.fro 2
        have r3 : w9.cell? ⟨rb, 3, none⟩ = some (.string ⟨#[]⟩) := HR9.out.cell 3 _ rfl
        have z3 := HR9.out.fro 3
        have r4 : w9.cell? ⟨rb, 4, none⟩ = some (.int .i64 0) := HR9.out.cell 4 _ rfl
        have z4 := HR9.out.fro 4
        have r5 : w9.cell? ⟨rb, 5, none⟩ = some (.int .i64 0) := HR9.out.cell 5 _ rfl
        have z5 := HR9.out.fro 5
        have r6 : w9.cell? ⟨rb, 6, none⟩ = some (.int .i64 0) := HR9.out.cell 6 _ rfl
        have z6 := HR9.out.fro 6
        clear hB9 hr HR9 HV
        go_wp2
        exact bodyPost_ret (v := .agg #[.int .i64 (rc : Int), .int .i64 (rs : Int), .string ⟨rg.toArray⟩, .string ⟨ry.toArray⟩, .int .i64 (rf : Int), .int .i64 (rt : Int), .int .i64 rk]) (by simp [results, Tryz.results6, go_sem, r0, r1, r2, r3, r4, r5, r6]) rfl ⟨by rw [HF.out], bel7 HB9.out HRB.out _ _ _ _ _ _ _⟩
end Go.Proofs.YtmodongnganbfaaGreatDoor.Rep
