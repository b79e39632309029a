/- Replies: the program's want. -/
import Derived.Test.YtmodongnganbfaaGreatDoorRpDToRpE
import Derived.Deep.RegionWith
import Derived.Lib.IndexBytes
import Derived.Deep.Cut
import Derived.ScopeJumps
import Derived.Test.YtmodongnganbfaaGreatDoorProg
namespace Go.Proofs.YtmodongnganbfaaGreatDoor.Rep
open Go.RowKit Go.Proofs.YtmodongnganbfaaGreatDoor Go.Proofs.YtmodongnganbfaaGreatDoor.Sha
/-- The same, by the number that is told. -/
def LineN (ad : Nat → Addr) (pm limit : Nat) (R : Res) (m : Mc) (p : Ps) (x : Int) (w' : World) : Prop :=
  (∃ c W, x = ((c : UInt8).toNat : Int) ∧ 0 < p.room ∧ PM pm limit { p with wire := W, room := p.room - 1 } .nilIface w' ∧ After limit R m c W) ∨
  (∃ tf vf W, x = 0 ∧ PM pm limit { p with wire := W } (.iface tf vf) w' ∧ Faulted ad pm R { p with wire := W } (.iface tf vf) w')
theorem LineE.num {ad : Nat → Addr} {pm limit : Nat} {R : Res} {m : Mc} {p : Ps} {e : Ending} {w' : World} (h : LineE ad pm limit R m p e w') : ∃ x : Int, e = .returned (.int .u8 x) ∧ LineN ad pm limit R m p x w' := by
  rcases h with ⟨c, W, rfl, h⟩ | ⟨tf, vf, W, rfl, h⟩
  · exact ⟨_, rfl, .inl ⟨c, W, rfl, h⟩⟩
  · exact ⟨_, rfl, .inr ⟨tf, vf, W, rfl, h⟩⟩
/-- What want asks of the document's machines. -/
structure Chain (limit : Nat) (p : Ps) (text : Bytes) (ms : Nat → Mc) : Prop where
  cnt : ∀ i, i < text.length → counts (ms i) = true
  used : ∀ i, i < text.length → (ms i).used + p.room = 400 + i
  tells : ∀ i, i < text.length → Tells (ms i) p.hd p.body
  no : ∀ i c, text[i]? ≠ some c → i < text.length → feed limit (ms i) c = none
  yes : ∀ i c, text[i]? = some c → i + 1 < text.length → (ms i).used < 400 → feed limit (ms i) c = some (ms (i + 1))
structure WInv (ad : Nat → Addr) (B pm limit : Nat) (R : Res) (p : Ps) (text : Bytes) (ms : Nat → Mc) (w : World) (i : Nat) (W : Wire) (r : Nat) (wr : World) : Prop where
  mem : PM pm limit { p with wire := W, room := r } .nilIface wr
  room : r + i = p.room
  only : Only (· = pm) w wr
  go : i < text.length → goOn limit (ms i) W = R
  fin : ∀ c, i = text.length → text[i - 1]? = some c → 0 < i → After limit R (ms (i - 1)) c W
/-- How want ends. -/
def WantE (ad : Nat → Addr) (pm limit : Nat) (R : Res) (p : Ps) (text : Bytes) (ms : Nat → Mc) (w' : World) : Prop :=
  (∃ W c, text.length ≤ p.room ∧ PM pm limit { p with wire := W, room := p.room - text.length } .nilIface w' ∧ text[text.length - 1]? = some c ∧ After limit R (ms (text.length - 1)) c W) ∨
  (∃ tf vf W r, PM pm limit { p with wire := W, room := r } (.iface tf vf) w' ∧ Faulted ad pm R { p with wire := W, room := r } (.iface tf vf) w')
set_option maxHeartbeats 4000000 in
set_option maxRecDepth 100000 in
theorem want_alive (pm limit : Nat) (R : Res) (p : Ps) (ad : Nat → Addr) (B : Nat) (s : ByteArray) (ms : Nat → Mc) (w : World) (h : PM pm limit p .nilIface w) (hW : RepW ad B w) (hB : B ≤ pm) (hs : 0 < s.size) (hs2 : s.size ≤ 100) (hz : ∀ c ∈ s.data.toList, c ≠ 0) (hC : Chain limit p s.data.toList ms) (hR : goOn limit (ms 0) p.wire = R) :
    Calls Tryz.prog 54 #[.pointer (some ⟨pm, 0, none⟩), .string s] w fun e w' => (e = .returned (.tuple #[]) ∧ WantE ad pm limit R p s.data.toList ms w') ∧ Only (· = pm) w w' := by
  have hlt := h.lt
  have hlen := size_len s
  have HI0 : Hid (WInv ad B pm limit R p s.data.toList ms w 0 p.wire p.room w) := ⟨h, rfl, Only.refl _ _, fun _ => hR, fun c _ _ h0 => absurd h0 (by omega)⟩
  have HW : Hid (RepW ad B w) := hW
  have HCh : Hid (Chain limit p s.data.toList ms) := hC
  have Hlen : Hid (s.data.toList.length = s.size) := hlen
  have Hz : Hid (∀ c ∈ s.data.toList, c ≠ 0) := hz
  clear h hW hC hlen hz hR
  go_enter Tryz.func54, Tryz.ntmps54
  go_wp2
  go_loopw [7] (fun iv wr => ∃ (i : Nat) (W : Wire) (r : Nat), iv = .int .i64 (i : Int) ∧ i ≤ s.size ∧ Hid (WInv ad B pm limit R p s.data.toList ms w i W r wr)) (fun iv _ => s.size - (intOf iv).toNat)
  case atStart => exact ⟨0, p.wire, p.room, rfl, Nat.zero_le _, HI0⟩
  case round =>
    obtain ⟨i, W, r, rfl, hi, HI⟩ := hrel
    by_cases hil : i < s.size
    · have hil' : (i : Int) < (s.size : Int) := by omega
      have hil2 : i < s.data.toList.length := by rw [Hlen.out]; exact hil
      have HOd : Hid (Only (· = pm) w wr.drew) := HI.out.only.trans (Only.drew _ wr 1)
      have hWr : RepW ad B wr.drew := HW.out.keep (only_keeps HOd.out hB hlt)
      have HC := takeOfLine_alive pm limit R (ms i) { p with wire := W, room := r } ad B wr.drew (HI.out.mem.below (Below.refl wr.heap.size wr).drew) hWr hB (HI.out.go hil2) (HCh.out.cnt i hil2) (by have := HCh.out.used i hil2; have := HI.out.room; show (ms i).used + r = 400; omega) (HCh.out.tells i hil2)
      have HC : Calls Tryz.prog 55 #[.pointer (some ⟨pm, 0, none⟩)] wr.drew fun e w' => (∃ x : Int, e = .returned (.int .u8 x) ∧ Hid (LineN ad pm limit R (ms i) { p with wire := W, room := r } x w')) ∧ Hid (Only (· = pm) wr.drew w') := HC.mono fun e w' ⟨a, b⟩ => ⟨a.num, b⟩
      have HWr : Hid (RepW ad B wr.drew) := hWr
      clear hWr hil2
      go_upto_region 3 with fail
      go_cut [15] from 10 (fun s15 wc => ∃ x : Int, s15 = .bool (x != ((s[i]).toNat : Int)) ∧ Hid (LineN ad pm limit R (ms i) { p with wire := W, room := r } x wc) ∧ Hid (Only (· = pm) wr.drew wc))
      case first =>
        go_region_with (go_at_call 55; refine HC.mono ?_; rintro e w2 ⟨⟨x, rfl, HX⟩, HO⟩)
        all_goals (go_wp2_with fail; go_meet; exact ⟨x, rfl, HX, HO⟩)
      case rest =>
        obtain ⟨x, rfl, HX, HO⟩ := hcut
        have HOw : Hid (Only (· = pm) w wc) := HOd.out.trans HO.out
        have hlc : pm < wc.heap.size := Nat.lt_of_lt_of_le hlt HOw.out.size
        have hWc : RepW ad B wc := HW.out.keep (only_keeps HOw.out hB hlt)
        have gb := hWc.byte
        have hroom := HI.out.room
        have hget : s.data.toList[i]? = some s[i] := Lib.data_getElem? s i hil
        rcases HX.out with ⟨c, W', rfl, hr0, hP, hA⟩ | ⟨tf, vf, W', rfl, hP, hF⟩
        · simp only [] at hr0
          by_cases hcs : c = s[i]
          · have tb : (((c.toNat : Nat) : Int) != ((s[i]).toNat : Int)) = false := by rw [hcs]; simp
            have HI1 : Hid (WInv ad B pm limit R p s.data.toList ms w (i + 1) W' (r - 1) wc) := by
              refine ⟨hP, by omega, HOw.out, fun hlt2 => ?_, fun d hd hd2 _ => ?_⟩
              · unfold After at hA
                rw [HCh.out.yes i c (by rw [hcs]; exact hget) hlt2 (by have := HCh.out.used i (by omega); omega)] at hA
                exact hA.symm
              · rw [Nat.add_sub_cancel] at hd2 ⊢
                rw [hget] at hd2
                rw [← Option.some.inj hd2, ← hcs]
                exact hA
            clear hP hA hcs hget hWc gb HX HC
            go_wp2
            go_roundw
            case rel => exact ⟨i + 1, W', r - 1, by go_num, by omega, HI1⟩
            case measure => simp [intOf]; omega
          · have tb : (((c.toNat : Nat) : Int) != ((s[i]).toNat : Int)) = true := by rw [bne_iff_ne]; intro e; exact hcs (UInt8.toNat_inj.1 (by omega))
            have HRn : Hid (R = ⟨none, W'.ticks⟩) := by
              show _ = _
              unfold After at hA
              rw [HCh.out.no i c (by rw [hget]; intro e; exact hcs (Option.some.inj e).symm) (by rw [Hlen.out]; exact hil)] at hA
              exact hA
            have HC2 := broken_first pm limit { p with wire := W', room := r - 1 } ad B (.pointer (some (ad 6))) 182 wc hP hWc
            clear hP hA hcs hget hWc HX HC
            go_wp2_with fail
            refine HC2.mono ?_
            rintro e w2 ⟨rfl, ⟨err, hP2, hF2⟩, hO2⟩
            obtain ⟨f, rfl, q⟩ := hF2
            have HF : Hid (WantE ad pm limit R p s.data.toList ms w2) := .inr ⟨_, _, W', r - 1, hP2, .inl ⟨⟨f, rfl, q⟩, HRn.out⟩⟩
            have HK : Hid (Only (· = pm) w w2) := HOw.out.trans hO2
            clear hP2 q hO2 HC2
            go_wp2
            first | go_end0 | refine bodyPost_ret (results_none rfl _ _ _) rfl ?_
            exact ⟨⟨rfl, HF.out⟩, HK.out⟩
        · have hsz : s[i] ≠ 0 := Hz.out _ (List.mem_of_getElem? hget)
          have tb : ((0 : Int) != ((s[i]).toNat : Int)) = true := by
            rw [bne_iff_ne]; intro e; exact hsz (UInt8.toNat_inj.1 (by have : (0 : UInt8).toNat = 0 := rfl; omega))
          have HC2 := broken_later pm limit { p with wire := W', room := r } ad B tf vf (.iface 182 (.pointer (some (ad 6)))) wc hP hWc
          have HF : Hid (WantE ad pm limit R p s.data.toList ms wc) := .inr ⟨tf, vf, W', r, hP, hF⟩
          clear hP hF hsz hget hWc HX HC
          go_wp2_with fail
          refine HC2.mono ?_
          rintro e w2 ⟨rfl, rfl⟩
          go_wp2
          first | go_end0 | refine bodyPost_ret (results_none rfl _ _ _) rfl ?_
          exact ⟨⟨rfl, HF.out⟩, HOw.out⟩
    · have hil' : ¬ (i : Int) < (s.size : Int) := by omega
      have HF : Hid (WantE ad pm limit R p s.data.toList ms wr) := by
        have hi2 : i = s.data.toList.length := by rw [Hlen.out]; omega
        have hroom := HI.out.room
        have hl0 : s.data.toList.length - 1 < s.data.toList.length := by omega
        refine .inl ⟨W, s.data.toList[s.data.toList.length - 1]'hl0, by omega, ?_, List.getElem?_eq_getElem hl0, ?_⟩
        · have q := HI.out.mem
          rw [show r = p.room - s.data.toList.length by omega] at q
          exact q
        · have q := HI.out.fin (s.data.toList[s.data.toList.length - 1]'hl0) hi2 (by rw [hi2]; exact List.getElem?_eq_getElem hl0) (by omega)
          rw [hi2] at q
          exact q
      have HK : Hid (Only (· = pm) w wr) := HI.out.only
      go_wp2
      first | go_end0 | refine bodyPost_ret (results_none rfl _ _ _) rfl ?_
      exact ⟨⟨rfl, HF.out⟩, HK.out⟩
end Go.Proofs.YtmodongnganbfaaGreatDoor.Rep
/- A scope through which the run jumps to several labels: what holds at each jump, and a measure that each pass from a label to the next jump lowers. -/
namespace Go.Proofs.YtmodongnganbfaaGreatDoor.Inf

/-- As Q; by a goto to label l: what J says of l. -/
def jumps (J : Nat → Act → World → Prop) (Q : Exit → Act → World → Prop) : Exit → Act → World → Prop
  | .goto l, a, w => J l a w
  | e, a, w => Q e a w
theorem scope_many {P : Program} {Q : Exit → Act → World → Prop} {a : Act} {w : World} {c : Code} (J : Nat → Act → World → Prop) (μ : Nat → Act → World → Nat)
    (first : c.wp P (jumps J Q) a w)
    (pass : ∀ l a w, J l a w → ∃ rest, findLabel c l = some rest ∧ rest.wp P (jumps (fun l' a' w' => J l' a' w' ∧ μ l' a' w' < μ l a w) Q) a w) : (Code.scope c).wp P Q a w := by
  intro b k cs
  have turn : ∀ n l a w, μ l a w = n → J l a w → ∃ rest, gotoIn l (.inScope c :: k) = some (.code rest :: .inScope c :: k) ∧ ∃ e a' w', Q e a' w' ∧ Arrives P (lone (b.at a (.code rest :: .inScope c :: k)) cs w) b k cs e a' w' := by
    intro n
    induction n using Nat.strongRecOn with
    | _ n ih =>
      intro l a w hn hJ
      obtain ⟨rest, hf, hp⟩ := pass l a w hJ
      refine ⟨rest, by simp [gotoIn, hf], ?_⟩
      obtain ⟨e, a1, w1, hq, harr⟩ := hp b (.inScope c :: k) cs
      match e, hq, harr with
      | .normal, hq, harr => exact ⟨.normal, a1, w1, hq, Steps.trans harr (.one step_inScope)⟩
      | .exit id, hq, harr => exact ⟨.exit id, a1, w1, hq, fun k' hk => harr k' (by simp [exitTo, hk])⟩
      | .goto l', hq, harr =>
        obtain ⟨rest', hg', e2, a2, w2, hq2, harr2⟩ := ih _ (by rw [← hn]; exact hq.2) l' a1 w1 rfl hq.1
        exact ⟨e2, a2, w2, hq2, .of_steps (harr _ hg') harr2⟩
      | .ret, hq, harr => exact ⟨_, a1, w1, hq, harr⟩
      | .panic ch, hq, harr => exact ⟨_, a1, w1, hq, harr⟩
      | .outgrown, hq, harr => exact ⟨_, a1, w1, hq, harr⟩
  obtain ⟨e, a1, w1, hq, harr⟩ := first b (.inScope c :: k) cs
  match e, hq, harr with
  | .normal, hq, harr => exact ⟨.normal, a1, w1, hq, .head step_scope (Steps.trans harr (.one step_inScope))⟩
  | .exit id, hq, harr => exact ⟨.exit id, a1, w1, hq, fun k' hk => .head step_scope (harr k' (by simp [exitTo, hk]))⟩
  | .goto l, hq, harr =>
    obtain ⟨rest, hg, e2, a2, w2, hq2, harr2⟩ := turn _ l a1 w1 rfl hq
    exact ⟨e2, a2, w2, hq2, .of_steps (.head step_scope (harr _ hg)) harr2⟩
  | .ret, hq, harr => exact ⟨_, a1, w1, hq, .of_steps (.one step_scope) harr⟩
  | .panic ch, hq, harr => exact ⟨_, a1, w1, hq, .of_steps (.one step_scope) harr⟩
  | .outgrown, hq, harr => exact ⟨_, a1, w1, hq, .of_steps (.one step_scope) harr⟩
/-- The same, the measure a letter of its own. -/
theorem scope_ghost {P : Program} {Q : Exit → Act → World → Prop} {a : Act} {w : World} {c : Code} (J : Nat → Nat → Act → World → Prop)
    (first : c.wp P (jumps (fun l a' w' => ∃ n, J n l a' w') Q) a w)
    (pass : ∀ n l a w, J n l a w → ∃ rest, findLabel c l = some rest ∧ rest.wp P (jumps (fun l' a' w' => ∃ m, m < n ∧ J m l' a' w') Q) a w) : (Code.scope c).wp P Q a w := by
  intro b k cs
  have turn : ∀ n l a w, J n l a w → ∃ rest, gotoIn l (.inScope c :: k) = some (.code rest :: .inScope c :: k) ∧ ∃ e a' w', Q e a' w' ∧ Arrives P (lone (b.at a (.code rest :: .inScope c :: k)) cs w) b k cs e a' w' := by
    intro n
    induction n using Nat.strongRecOn with
    | _ n ih =>
      intro l a w hJ
      obtain ⟨rest, hf, hp⟩ := pass n l a w hJ
      refine ⟨rest, by simp [gotoIn, hf], ?_⟩
      obtain ⟨e, a1, w1, hq, harr⟩ := hp b (.inScope c :: k) cs
      match e, hq, harr with
      | .normal, hq, harr => exact ⟨.normal, a1, w1, hq, Steps.trans harr (.one step_inScope)⟩
      | .exit id, hq, harr => exact ⟨.exit id, a1, w1, hq, fun k' hk => harr k' (by simp [exitTo, hk])⟩
      | .goto l', hq, harr =>
        obtain ⟨m, hm, hJm⟩ := hq
        obtain ⟨rest', hg', e2, a2, w2, hq2, harr2⟩ := ih m hm l' a1 w1 hJm
        exact ⟨e2, a2, w2, hq2, .of_steps (harr _ hg') harr2⟩
      | .ret, hq, harr => exact ⟨_, a1, w1, hq, harr⟩
      | .panic ch, hq, harr => exact ⟨_, a1, w1, hq, harr⟩
      | .outgrown, hq, harr => exact ⟨_, a1, w1, hq, harr⟩
  obtain ⟨e, a1, w1, hq, harr⟩ := first b (.inScope c :: k) cs
  match e, hq, harr with
  | .normal, hq, harr => exact ⟨.normal, a1, w1, hq, .head step_scope (Steps.trans harr (.one step_inScope))⟩
  | .exit id, hq, harr => exact ⟨.exit id, a1, w1, hq, fun k' hk => .head step_scope (harr k' (by simp [exitTo, hk]))⟩
  | .goto l, hq, harr =>
    obtain ⟨n, hn⟩ := hq
    obtain ⟨rest, hg, e2, a2, w2, hq2, harr2⟩ := turn n l a1 w1 hn
    exact ⟨e2, a2, w2, hq2, .of_steps (.head step_scope (harr _ hg)) harr2⟩
  | .ret, hq, harr => exact ⟨_, a1, w1, hq, .of_steps (.one step_scope) harr⟩
  | .panic ch, hq, harr => exact ⟨_, a1, w1, hq, .of_steps (.one step_scope) harr⟩
  | .outgrown, hq, harr => exact ⟨_, a1, w1, hq, .of_steps (.one step_scope) harr⟩
end Go.Proofs.YtmodongnganbfaaGreatDoor.Inf
/- A scope with several labels into which the run may also fall from above. -/
namespace Go.Proofs.YtmodongnganbfaaGreatDoor.Inf

/-- What holds at label l carries the run from there on to a jump of a lower measure, or out. -/
def Falls (P : Program) (c : Code) (J : Nat → Nat → Act → World → Prop) (Q : Exit → Act → World → Prop) (n l : Nat) (a : Act) (w : World) : Prop :=
  ∃ rest, findLabel c l = some (.seq .skip rest) ∧ rest.wp P (jumps (fun l' a' w' => ∃ m, m < n ∧ J m l' a' w') Q) a w
theorem scope_fall {P : Program} {Q : Exit → Act → World → Prop} {a : Act} {w : World} {c : Code} (J : Nat → Nat → Act → World → Prop)
    (pass : ∀ n, (∀ m l a w, m < n → J m l a w → Falls P c J Q m l a w) → ∀ l a w, J n l a w → Falls P c J Q n l a w)
    (first : (∀ m l a w, J m l a w → Falls P c J Q m l a w) → c.wp P (jumps (fun l a' w' => ∃ n, J n l a' w') Q) a w) : (Code.scope c).wp P Q a w := by
  have all : ∀ m l a w, J m l a w → Falls P c J Q m l a w := by
    intro m
    induction m using Nat.strongRecOn with
    | _ m ih => exact pass m (fun k l a w hk => ih k hk l a w)
  refine scope_ghost J (first all) fun n l a w hJ => ?_
  obtain ⟨rest, h1, h2⟩ := all n l a w hJ
  exact ⟨_, h1, wp_seq (wp_skip h2)⟩
/-- A frame by its known slots, the others a function's values. -/
theorem mkF {a : Act} {mk : (Nat → Value) → Act} (h : a = mk (fun i => a.tmps.getD i undef)) : ∃ f, a = mk f := ⟨_, h⟩
/-- The run falls into a label. -/
theorem fall {P : Program} {c : Code} {J : Nat → Nat → Act → World → Prop} {Q : Exit → Act → World → Prop} {m l : Nat} {a : Act} {w : World} {rest : Code} {K : Nat → Act → World → Prop}
    (h : Falls P c J Q m l a w) (hc : findLabel c l = some (.seq .skip rest)) (hK : ∀ k l' a' w', k < m → J k l' a' w' → K l' a' w') : (Code.seq (.label l) rest).wp P (jumps K Q) a w := by
  obtain ⟨r, h1, h2⟩ := h
  rw [hc] at h1
  injection h1 with h1
  injection h1 with _ h1
  subst h1
  refine wp_seq (wp_label (wp_mono h2 ?_))
  intro e a w hq
  match e, hq with
  | .normal, hq => exact hq
  | .exit id, hq => exact hq
  | .goto l', hq => obtain ⟨k, hk, hJ⟩ := hq; exact hK k l' a w hk hJ
  | .ret, hq => exact hq
  | .panic ch, hq => exact hq
  | .outgrown, hq => exact hq
theorem fall2 {P : Program} {c : Code} {J : Nat → Nat → Act → World → Prop} {Q : Exit → Act → World → Prop} {m l : Nat} {a : Act} {w : World} {rest : Code} {K : Nat → Act → World → Prop}
    (h : Falls P c J Q m l a w) (hc : findLabel c l = some (.seq .skip rest)) (hK : ∀ k l' a' w', k < m → J k l' a' w' → K l' a' w') : rest.wp P (jumps K Q) a w := by
  obtain ⟨r, h1, h2⟩ := h
  rw [hc] at h1
  injection h1 with h1
  injection h1 with _ h1
  subst h1
  refine wp_mono h2 ?_
  intro e a w hq
  match e, hq with
  | .normal, hq => exact hq
  | .exit id, hq => exact hq
  | .goto l', hq => obtain ⟨k, hk, hJ⟩ := hq; exact hK k l' a w hk hJ
  | .ret, hq => exact hq
  | .panic ch, hq => exact hq
  | .outgrown, hq => exact hq
end Go.Proofs.YtmodongnganbfaaGreatDoor.Inf
