/- satchellaw's Book.looks. -/
import Derived.Test.YtfngjfnakokgmaaGreatDoorBookBToBookE
import Derived.Test.YtfngjfnakokgmaaGreatDoorTextOnly
namespace Go.Proofs.YtfngjfnakokgmaaGreatDoor.Bk
open Go.RowKit Go.Proofs.YtfngjfnakokgmaaGreatDoor.Sha Go.Proofs.YtfngjfnakokgmaaGreatDoor Go.Proofs.YtfngjfnakokgmaaGreatDoor.Txt
theorem files_none (c : Int) (w : World) : Calls Tryz.prog 20 #[.slice none 0 0, .int .i64 c] w fun e w' => e = .returned (.bool true) ∧ w' = w := by
  go_enter Tryz.func20, Tryz.ntmps20
  go_wp2
  refine wp_loop_rounds 1 ?_
  rw [rounds_succ]
  go_wp2
  go_ret
  exact ⟨rfl, rfl⟩
def LkRel (E : List Value) (w : World) (i : Value) (wx : World) : Prop := ∃ k : Nat, i = .int .i64 (k : Int) ∧ k ≤ E.length ∧ Below w.heap.size w wx
set_option maxHeartbeats 4000000 in
set_option maxRecDepth 100000 in
theorem looks_walk (bb : Nat) (vw : Value) (E : List Value) (w : World) (hE : E.length ≤ 12) (hB : BK bb vw E w) :
    Calls Tryz.prog 10 #[.pointer (some ⟨bb, 0, none⟩)] w fun e w' => e = .returned (.bool true) ∧ Below w.heap.size w w' := by
  obtain ⟨aw, capw, hvw⟩ := own_slice hB.ws
  have c0 : w.cell? ⟨bb, 0, none⟩ = some (.slice none 0 0) := hB.oth 0 (by decide) (by decide)
  have c1 : w.cell? ⟨bb, 1, none⟩ = some (.slice none 0 0) := hB.oth 1 (by decide) (by decide)
  have c2 : w.cell? ⟨bb, 2, none⟩ = some (.slice none 0 0) := hB.oth 2 (by decide) (by decide)
  have c4 : w.cell? ⟨bb, 4, none⟩ = some (.slice none 0 0) := hB.oth 4 (by decide) (by decide)
  have c5 : w.cell? ⟨bb, 5, none⟩ = some (.slice none 0 0) := hB.oth 5 (by decide) (by decide)
  have c6 : w.cell? ⟨bb, 6, none⟩ = some (.slice none 0 0) := hB.oth 6 (by decide) (by decide)
  have HB : Hid (BK bb vw E w) := hB
  have HVw : Hid (vw = .slice aw E.length capw) := hvw
  have HE : Hid (E.length ≤ 12) := hE
  clear hB hvw hE
  go_enter Tryz.func10, Tryz.ntmps10
  go_wp2_with fail
  refine (files_none _ w).mono ?_
  rintro e w1 ⟨rfl, rfl⟩
  go_wp2_with fail
  refine (files_none _ _).mono ?_
  rintro e w1 ⟨rfl, rfl⟩
  go_wp2
  refine wp_loop_rounds 1 ?_
  rw [rounds_succ]
  go_wp2
  refine wp_loop_rounds 1 ?_
  rw [rounds_succ]
  go_wp2
  refine wp_loop_rounds 1 ?_
  rw [rounds_succ]
  go_wp2
  refine wp_loop_rounds 1 ?_
  rw [rounds_succ]
  go_wp2
  clear c0 c1 c2 c4 c5 c6
  go_loopw [15] (fun i wx => LkRel E w1 i wx) (fun i _ => E.length - (intOf i).toNat)
  case atStart => exact ⟨0, rfl, Nat.zero_le _, Below.refl _ _⟩
  case round =>
    obtain ⟨k, rfl, hk, hBw⟩ := hrel
    have hBk : BK bb vw E wr := HB.out.only (Only.of_below (S := fun _ => False) hBw) (fun e => e) (fun _ _ e => e) (fun _ _ _ _ _ _ _ _ _ e => e)
    have c3 : wr.cell? ⟨bb, 3, none⟩ = some (.slice aw E.length capw) := by rw [hBk.wds, HVw.out]
    by_cases hlt : k < E.length
    · have hlt' : (k : Int) < (E.length : Int) := by omega
      have hk12 : k < 12 := Nat.lt_of_lt_of_le hlt HE.out
      go_wp2_with fail
      rw [show (k : Int) / 4 = ((k / 4 : Nat) : Int) by omega]
      refine (mark_walk (k / 4) (by omega) wr).mono ?_
      rintro e w2 ⟨rfl, hb2⟩
      have hBw2 : Below w1.heap.size w1 w2 := hBw.trans (hb2.mono hBw.size)
      have hB2 : BK bb vw E w2 := hBk.only (Only.of_below (S := fun _ => False) hb2) (fun e => e) (fun _ _ e => e) (fun _ _ _ _ _ _ _ _ _ e => e)
      have d3 : w2.cell? ⟨bb, 3, none⟩ = some (.slice aw E.length capw) := by rw [hB2.wds, HVw.out]
      obtain ⟨gw, capw2, e1, dk, _⟩ := own_at hB2.ws k hlt
      rw [HVw.out] at e1
      injection e1 with e1 _ e2
      subst e1 e2
      obtain ⟨ao, n, cap, eE, hn, hcells⟩ := hB2.rd k hlt
      rw [eE] at dk
      have HC : Hid (0 < n → ∃ g, ao = some ⟨g, 0, none⟩ ∧ g < w2.heap.size ∧ n ≤ cap ∧ ∀ j, j < n → w2.cell? ⟨g, j, none⟩ = some (.string (mk (k / 4)))) := hcells
      clear c3 hBk hB2 hBw hb2 hcells eE
      go_wp2
      go_loop [17] (fun j => ∃ p : Nat, p ≤ n ∧ j = .int .i64 (p : Int)) (fun j => n - (intOf j).toNat)
      case atStart => exact ⟨0, Nat.zero_le _, rfl⟩
      case round =>
        obtain ⟨p, hp, rfl⟩ := hrel
        by_cases hpn : p < n
        · have hpn' : (p : Int) < (n : Int) := by omega
          obtain ⟨g, rfl, _, hcap, hcell⟩ := HC.out (by omega)
          have hc := hcell p hpn
          clear hcell
          go_wp2
          go_round
          case rel => exact ⟨p + 1, by omega, by go_num⟩
          case measure => simp [intOf]; omega
        · have hpn' : ¬ (p : Int) < (n : Int) := by omega
          go_wp2
          go_roundw
          case rel => exact ⟨k + 1, by go_num, by omega, hBw2⟩
          case measure => simp [intOf]; omega
    · have hlt' : ¬ (k : Int) < (E.length : Int) := by omega
      go_wp2
      go_ret
      exact ⟨rfl, hBw⟩
end Go.Proofs.YtfngjfnakokgmaaGreatDoor.Bk
/- satchellaw's sameTexts. -/
namespace Go.Proofs.YtfngjfnakokgmaaGreatDoor.Bk
open Go.RowKit Go.Proofs.YtfngjfnakokgmaaGreatDoor.Sha Go.Proofs.YtfngjfnakokgmaaGreatDoor Go.Proofs.YtfngjfnakokgmaaGreatDoor.Txt
/-- A list of texts in memory. -/
def RT (T : List ByteArray) (v : Value) (w : World) : Prop := ∃ ao cap, v = .slice ao T.length cap ∧ (0 < T.length → ∃ g, ao = some ⟨g, 0, none⟩ ∧ g < w.heap.size ∧ T.length ≤ cap ∧ ∀ j (hj : j < T.length), w.cell? ⟨g, j, none⟩ = some (.string T[j]))
theorem RT.only {T : List ByteArray} {v : Value} {w w' : World} {S : Nat → Prop} (h : RT T v w) (hk : Only S w w') (hs : ∀ g, v.ownBlock = some g → ¬ S g) : RT T v w' := by
  obtain ⟨ao, cap, e, h⟩ := h
  refine ⟨ao, cap, e, fun hp => ?_⟩
  obtain ⟨g, e1, e2, e3, e4⟩ := h hp
  have hn := hs g (by rw [e, e1]; rfl)
  exact ⟨g, e1, Nat.lt_of_lt_of_le e2 hk.size, e3, fun j hj => by rw [hk.cell (p := ⟨g, j, none⟩) e2 hn]; exact e4 j hj⟩
theorem RT.below {T : List ByteArray} {v : Value} {w w' : World} (h : RT T v w) (hb : Below w.heap.size w w') : RT T v w' := h.only (Only.of_below (S := fun _ => False) hb) (fun _ _ e => e)
theorem own_rt {w : World} {base : Nat} {v : Value} {T : List ByteArray} (h : Own w base v (T.map strv)) : RT T v w := by
  rcases h with ⟨rfl, e⟩ | ⟨g, cap, rfl, _, hg, hc, hcell, _⟩
  · have : T = [] := by simpa using e
    subst this
    exact ⟨none, 0, rfl, fun h => absurd h (Nat.lt_irrefl _)⟩
  · rw [List.length_map] at *
    exact ⟨_, cap, rfl, fun _ => ⟨g, rfl, hg, hc, fun j hj => hcell j _ (by simp [hj, strv])⟩⟩
theorem put_rt {w : World} {base : Nat} {v : Value} {T : List ByteArray} (h : Put base v T w) : RT T v w := by
  by_cases hT : T = []
  · have := h.none' hT
    subst hT this
    exact ⟨none, 0, rfl, fun h => absurd h (Nat.lt_irrefl _)⟩
  · obtain ⟨g, cap, rfl, _, hl, hc, hcell⟩ := h.row hT
    exact ⟨_, cap, rfl, fun _ => ⟨g, rfl, hl, hc, hcell⟩⟩
set_option maxHeartbeats 2000000 in
set_option maxRecDepth 100000 in
theorem sameTexts_walk (T : List ByteArray) (va vb : Value) (w : World) (hT : T.length ≤ 1048577) (ha : RT T va w) (hb : RT T vb w) : Calls Tryz.prog 8 #[va, vb] w fun e w' => e = .returned (.bool true) ∧ Below w.heap.size w w' := by
  obtain ⟨a1, c1, rfl, h1⟩ := ha
  obtain ⟨a2, c2, rfl, h2⟩ := hb
  have H1 : Hid (0 < T.length → ∃ g, a1 = some ⟨g, 0, none⟩ ∧ g < w.heap.size ∧ T.length ≤ c1 ∧ ∀ j (hj : j < T.length), w.cell? ⟨g, j, none⟩ = some (.string T[j])) := h1
  have H2 : Hid (0 < T.length → ∃ g, a2 = some ⟨g, 0, none⟩ ∧ g < w.heap.size ∧ T.length ≤ c2 ∧ ∀ j (hj : j < T.length), w.cell? ⟨g, j, none⟩ = some (.string T[j])) := h2
  clear h1 h2
  go_enter Tryz.func8, Tryz.ntmps8
  go_wp2
  go_loopw [5] (fun i wx => ∃ k : Nat, k ≤ T.length ∧ i = .int .i64 (k : Int) ∧ Below w.heap.size w wx) (fun i _ => T.length - (intOf i).toNat)
  case atStart => exact ⟨0, Nat.zero_le _, rfl, Below.refl _ _⟩
  case round =>
    obtain ⟨k, hk, rfl, hB⟩ := hrel
    by_cases hlt : k < T.length
    · have hlt' : (k : Int) < (T.length : Int) := by omega
      obtain ⟨g1, rfl, l1, _, d1⟩ := H1.out (by omega)
      obtain ⟨g2, rfl, l2, _, d2⟩ := H2.out (by omega)
      have e1 : wr.cell? ⟨g1, k, none⟩ = some (.string T[k]) := by rw [hB.cell (p := ⟨g1, k, none⟩) l1]; exact d1 k hlt
      have e2 : wr.cell? ⟨g2, k, none⟩ = some (.string T[k]) := by rw [hB.cell (p := ⟨g2, k, none⟩) l2]; exact d2 k hlt
      obtain ⟨t, ht⟩ : ∃ t, t = T[k] := ⟨_, rfl⟩
      rw [← ht] at e1 e2
      clear d1 d2 ht
      go_wp2_with fail
      go_region
      go_wp2
      go_roundw
      case rel => exact ⟨k + 1, by omega, by go_num, hB.trans ((below_drewN 1).mono hB.size)⟩
      case measure => simp [intOf]; omega
    · have hlt' : ¬ (k : Int) < (T.length : Int) := by omega
      go_wp2
      go_ret
      exact ⟨rfl, hB⟩
end Go.Proofs.YtfngjfnakokgmaaGreatDoor.Bk
/- The reader takes a string. -/
namespace Go.Proofs.YtfngjfnakokgmaaGreatDoor.Txt
open Go.RowKit Go.Proofs.YtfngjfnakokgmaaGreatDoor.Sha
theorem quoted_eq (l : Bytes) : quoted l = (want 34 l).bind chars := by
  cases l with
  | nil => rfl
  | cons c r =>
    rw [quoted, want]
    split <;> rfl
section
variable {rb : Nat} {s : ByteArray} {a : Nat} {bad : Bool} {w : World}
theorem quoted_end {a1 a2 p : Nat} {b1 bd b2 : Bool} {acc : Bytes} {w1 w2 w3 : World} (h1 : Went rb s bad (want 34 (s.data.toList.drop a)) a1 b1 w w1) (hi : QI rb s (s.data.toList.drop a1) b1 a1 acc p bd) (hc : isPlain (seen s p bd) = false) (h92 : seen s p bd ≠ 92) (k2 : Only (· = rb) w w2) (h3 : Went rb s bd (want 34 (s.data.toList.drop p)) a2 b2 w2 w3) :
    Went rb s bad ((quoted (s.data.toList.drop a)).map (·.2)) a2 b2 w w3 ∧ (bad = false → ∀ q, quoted (s.data.toList.drop a) = some q → acc = q.1) := by
  have key : bad = false → ∀ q, quoted (s.data.toList.drop a) = some q → b2 = false ∧ s.data.toList.drop a2 = q.2 ∧ acc = q.1 := by
    intro hb q hq
    rw [quoted_eq] at hq
    obtain ⟨l, hl, hq⟩ := Option.bind_eq_some_iff.1 hq
    obtain ⟨e1, e2⟩ := h1.yes l hb hl
    rw [← e2] at hq
    have hbd : bd = false := by
      cases bd with
      | false => rfl
      | true => rw [hi.bad e1 rfl] at hq; cases hq
    rw [hi.fin hc h92 e1 hbd] at hq
    obtain ⟨r, hr, he⟩ := Option.map_eq_some_iff.1 hq
    obtain ⟨g1, g2⟩ := h3.yes r hbd hr
    rw [← he]
    exact ⟨g1, g2, rfl⟩
  refine ⟨⟨h3.rd, k2.trans h3.only, fun hb => h3.was (hi.was (h1.was hb)), fun r hb hr => ?_, fun hb hr => ?_⟩, fun hb q hq => (key hb q hq).2.2⟩
  · obtain ⟨q, hq, he⟩ := Option.map_eq_some_iff.1 hr
    obtain ⟨g1, g2, _⟩ := key hb q hq
    rw [← he]; exact ⟨g1, g2⟩
  · have hr : quoted (s.data.toList.drop a) = none := by simpa using hr
    rw [quoted_eq] at hr
    cases hl : want 34 (s.data.toList.drop a) with
    | none => exact h3.was (hi.was (h1.no hb hl))
    | some l =>
      obtain ⟨e1, e2⟩ := h1.yes l hb hl
      rw [hl, Option.bind_some, ← e2] at hr
      cases hbd : bd with
      | true => exact h3.was hbd
      | false =>
        rw [hi.fin hc h92 e1 hbd] at hr
        exact h3.no hbd (by simpa using hr)
/-- What quoted answers. -/
def QPost (rb : Nat) (s : ByteArray) (a : Nat) (bad : Bool) (w : World) (e : Ending) (w' : World) : Prop :=
  ∃ (t : Bytes) (a' : Nat) (bd : Bool), e = .returned (.string ⟨t.toArray⟩) ∧ t.length ≤ s.size ∧ Went rb s bad ((quoted (s.data.toList.drop a)).map (·.2)) a' bd w w' ∧ (bad = false → ∀ q, quoted (s.data.toList.drop a) = some q → t = q.1)
/-- What the loop keeps. -/
def QRel (rb : Nat) (s : ByteArray) (w : World) (l1 : Bytes) (b1 : Bool) (a1 : Nat) (v : Value) (wr : World) : Prop :=
  ∃ (p : Nat) (bd : Bool) (acc : Bytes), OwnL u8v wr w.heap.size v acc ∧ RD rb s p bd wr ∧ Only (· = rb) w wr ∧ QI rb s l1 b1 a1 acc p bd
theorem quoted_walk (h : RD rb s a bad w) (hW : TxtW w) (hg : 29 ≤ rb) (hs : s.size ≤ 140737488355327) :
    Calls Tryz.prog 102 #[.pointer (some ⟨rb, 0, none⟩)] w fun e w' => QPost rb s a bad w e w' := by
  have HS : Hid (∀ k, k = rb → 29 ≤ k) := fun k hk => by rw [hk]; exact hg
  have HSb : Hid (∀ k, k = rb → k < w.heap.size) := fun k hk => by rw [hk]; exact h.lt
  have HT : Hid (TxtW w) := hW
  have HH : Hid (RD rb s a bad w) := h
  have hs' : s.size ≤ 140737488355328 := by omega
  clear hW h
  obtain ⟨i0, hi, hz0, hz1, hz2⟩ := info_parts u8Info
  go_enter Tryz.func102, Tryz.ntmps102
  go_wp2_with fail
  refine (want_went 34 HH.out HT.out hg (by decide) hs').mono ?_
  rintro e w1 ⟨rfl, a1, b1, h1⟩
  have H1 : Hid (Went rb s bad (want 34 (s.data.toList.drop a)) a1 b1 w w1) := h1
  have HR0 : Hid (QRel rb s w (s.data.toList.drop a1) b1 a1 (.slice none 0 0) w1) := ⟨a1, b1, [], Own.nil _ _, h1.rd, h1.only, QI.start⟩
  clear h1
  go_wp2
  go_loopw [3] (fun v wr => QRel rb s w (s.data.toList.drop a1) b1 a1 v wr) (fun _ wr => s.size - atOf rb wr)
  case atStart => exact HR0.out
  case round =>
    clear HR0
    obtain ⟨p, bd, acc, hO, hM, hK, hI⟩ := hrel
    have HA : Hid (atOf rb wr = p) := hM.atOf
    have HO : Hid (OwnL u8v wr w.heap.size _ acc) := hO
    have HM : Hid (RD rb s p bd wr) := hM
    have HK : Hid (Only (· = rb) w wr) := hK
    have HI : Hid (QI rb s (s.data.toList.drop a1) b1 a1 acc p bd) := hI
    clear hO hM hK hI
    go_wp2_with fail
    refine (see_any HM.out).mono ?_
    rintro e w2 ⟨rfl, h2, k2⟩
    have HM2 : Hid (RD rb s p bd w2) := h2
    have HK2 : Hid (Only (· = rb) w w2) := HK.out.trans k2
    have HO2 : Hid (OwnL u8v w2 w.heap.size _ acc) := own_only HO.out k2 HSb.out
    clear h2 k2 HO HM HK
    go_wp2_with fail
    refine (isPlain_B (seen s p bd) w2).mono ?_
    rintro e w3 ⟨rfl, rfl⟩
    obtain ⟨T, HTl⟩ : ∃ T, Hid (acc.length = T) := ⟨_, rfl⟩
    have HTb : Hid (p < s.size → T ≤ 140737488355326) := fun hl => by have := HI.out.len; have := HTl.out; omega
    by_cases hb : isPlain (seen s p bd) = true
    · obtain ⟨c, HC⟩ : ∃ c, Hid (seen s p bd = c) := ⟨_, rfl⟩
      have hc0 : c ≠ 0 := by intro e; rw [HC.out, e] at hb; revert hb; decide
      have hc92 : c ≠ 92 := by intro e; rw [HC.out, e] at hb; revert hb; decide
      have HL : Hid (p < s.size) := (seen_drop c hc0 HC.out).2.1
      have hT := HTb.out HL.out
      have HI5 : Hid (QI rb s (s.data.toList.drop a1) b1 a1 (acc ++ [c]) (p + 1) bd) := by have := HI.out.plain hb; rw [HC.out] at this; exact this
      have HC0 : Hid (c ≠ 0) := hc0
      have HC92 : Hid (c ≠ 92) := hc92
      rw [hb]
      clear hb hc0 hc92
      go_wp2_with fail
      refine (char_plain c HM2.out hs' HC0.out HC.out HC92.out).mono ?_
      rintro e w5 ⟨rfl, h5, k5⟩
      have HM5 : Hid (RD rb s (p + 1) bd w5) := h5
      have HK5 : Hid (Only (· = rb) w w5) := HK2.out.trans k5
      have HO5 : Hid (OwnL u8v w5 w.heap.size _ acc) := own_only HO2.out k5 HSb.out
      clear h5 k5 HM2 HK2 HO2
      have ho := HO5.out
      have hzw : w.heap.size ≤ w5.heap.size := HK5.out.size
      go_wp2_with (at_builtin; refine wpList_append_one u8v u8v_one rfl _ _ 102 rfl w.heap.size 5 i0 (.int .u8 0) 1 Tryz.underlying102 hi hz0 hz1 hz2 rfl _ acc T HTl.out c rfl (ho.step (below_one _ _)) w5.heap.size rfl (by rw [World.cell?_alloc_at _ _ _ _ rfl]; rfl) (by omega) (by decide) (by simp; omega) ?_)
      intro g6 cap6 w6 ho6 hb6
      have HB6 : Hid (Below w.heap.size w5 w6) := ((Below.refl w.heap.size w5).alloc hzw _).trans hb6
      have HM6 : Hid (RD rb s (p + 1) bd w6) := HM5.out.of_below HB6.out (HSb.out rb rfl)
      have HR6 : Hid (QRel rb s w (s.data.toList.drop a1) b1 a1 (.slice (some ⟨g6, 0, none⟩) (T + 1) cap6) w6) := ⟨(p + 1), bd, acc ++ [c], ho6, HM6.out, HK5.out.then_below HB6.out, HI5.out⟩
      clear hb6 ho6 ho
      go_wp2
      go_roundw
      case rel => exact HR6.out
      case measure =>
        have e1 := HM6.out.atOf
        have e2 := HA.out
        have e3 := HL.out
        omega
    · have hb' : isPlain (seen s p bd) = false := by simpa using hb
      have HN : Hid (isPlain (seen s p bd) = false) := hb'
      rw [hb']
      clear hb hb'
      go_wp2_with fail
      refine (see_any HM2.out).mono ?_
      rintro e w4 ⟨rfl, h4, k4⟩
      have HM4 : Hid (RD rb s p bd w4) := h4
      have HK4 : Hid (Only (· = rb) w w4) := HK2.out.trans k4
      have HO4 : Hid (OwnL u8v w4 w.heap.size _ acc) := own_only HO2.out k4 HSb.out
      have HT4 : Hid (TxtW w4) := HT.out.only HK4.out HS.out
      clear h4 k4 HM2 HK2 HO2
      by_cases h92 : seen s p bd = 92
      · have HC : Hid (seen s p bd = 92) := h92
        have HL : Hid (p < s.size) := (seen_drop 92 (by decide) h92).2.1
        have hT := HTb.out HL.out
        rw [h92]
        clear h92
        go_wp2_with fail
        refine (char_back HM4.out HT4.out hg hs' HC.out).mono ?_
        rintro e w5 ⟨rfl, k5, h5a, h5b⟩
        have HK5 : Hid (Only (· = rb) w w5) := HK4.out.trans k5
        have HO5 : Hid (OwnL u8v w5 w.heap.size _ acc) := own_only HO4.out k5 HSb.out
        clear k5
        by_cases hm : meant (seen s (p + 1) bd) = 0
        · have HM5 : Hid (RD rb s (p + 1) true w5) := h5a hm
          obtain ⟨c, HCm⟩ : ∃ c, Hid (meant (seen s (p + 1) bd) = c) := ⟨_, rfl⟩
          have HI5 : Hid (QI rb s (s.data.toList.drop a1) b1 a1 (acc ++ [c]) (p + 1) true) := by have := HI.out.fail HC.out hm; rw [HCm.out] at this; exact this
          rw [HCm.out]
          clear h5a h5b hm HM4 HK4 HO4
          have ho := HO5.out
          have hzw : w.heap.size ≤ w5.heap.size := HK5.out.size
          go_wp2_with (at_builtin; refine wpList_append_one u8v u8v_one rfl _ _ 102 rfl w.heap.size 5 i0 (.int .u8 0) 1 Tryz.underlying102 hi hz0 hz1 hz2 rfl _ acc T HTl.out c rfl (ho.step (below_one _ _)) w5.heap.size rfl (by rw [World.cell?_alloc_at _ _ _ _ rfl]; rfl) (by omega) (by decide) (by simp; omega) ?_)
          intro g6 cap6 w6 ho6 hb6
          have HB6 : Hid (Below w.heap.size w5 w6) := ((Below.refl w.heap.size w5).alloc hzw _).trans hb6
          have HM6 : Hid (RD rb s (p + 1) true w6) := HM5.out.of_below HB6.out (HSb.out rb rfl)
          have HR6 : Hid (QRel rb s w (s.data.toList.drop a1) b1 a1 (.slice (some ⟨g6, 0, none⟩) (T + 1) cap6) w6) := ⟨(p + 1), true, acc ++ [c], ho6, HM6.out, HK5.out.then_below HB6.out, HI5.out⟩
          clear hb6 ho6 ho
          go_wp2
          go_roundw
          case rel => exact HR6.out
          case measure =>
            have e1 := HM6.out.atOf
            have e2 := HA.out
            have e3 := HL.out
            omega
        · have HM5 : Hid (RD rb s (p + 2) bd w5) := h5b hm
          obtain ⟨c, HCm⟩ : ∃ c, Hid (meant (seen s (p + 1) bd) = c) := ⟨_, rfl⟩
          have HI5 : Hid (QI rb s (s.data.toList.drop a1) b1 a1 (acc ++ [c]) (p + 2) bd) := by have := HI.out.esc HC.out hm; rw [HCm.out] at this; exact this
          rw [HCm.out]
          clear h5a h5b hm HM4 HK4 HO4
          have ho := HO5.out
          have hzw : w.heap.size ≤ w5.heap.size := HK5.out.size
          go_wp2_with (at_builtin; refine wpList_append_one u8v u8v_one rfl _ _ 102 rfl w.heap.size 5 i0 (.int .u8 0) 1 Tryz.underlying102 hi hz0 hz1 hz2 rfl _ acc T HTl.out c rfl (ho.step (below_one _ _)) w5.heap.size rfl (by rw [World.cell?_alloc_at _ _ _ _ rfl]; rfl) (by omega) (by decide) (by simp; omega) ?_)
          intro g6 cap6 w6 ho6 hb6
          have HB6 : Hid (Below w.heap.size w5 w6) := ((Below.refl w.heap.size w5).alloc hzw _).trans hb6
          have HM6 : Hid (RD rb s (p + 2) bd w6) := HM5.out.of_below HB6.out (HSb.out rb rfl)
          have HR6 : Hid (QRel rb s w (s.data.toList.drop a1) b1 a1 (.slice (some ⟨g6, 0, none⟩) (T + 1) cap6) w6) := ⟨(p + 2), bd, acc ++ [c], ho6, HM6.out, HK5.out.then_below HB6.out, HI5.out⟩
          clear hb6 ho6 ho
          go_wp2
          go_roundw
          case rel => exact HR6.out
          case measure =>
            have e1 := HM6.out.atOf
            have e2 := HA.out
            have e3 := HL.out
            omega
      · have HC : Hid (seen s p bd ≠ 92) := h92
        have hne : (((seen s p bd).toNat : Int) == 92) = false := by
          simp only [beq_eq_false_iff_ne, ne_eq]
          intro e
          exact h92 (UInt8.toNat_inj.1 (by have e2 : (92 : UInt8).toNat = 92 := rfl; omega))
        obtain ⟨u, HU⟩ : ∃ u, Hid (seen s p bd = u) := ⟨_, rfl⟩
        have HLen : Hid (acc.length ≤ s.size) := Nat.le_trans HI.out.len HM4.out.le
        rw [HU.out] at hne ⊢
        clear h92 HTb
        go_wp2_with fail
        refine (want_went 34 HM4.out HT4.out hg (by decide) hs').mono ?_
        rintro e w5 ⟨rfl, a2, b2, h5⟩
        have HQ := quoted_end H1.out HI.out HN.out HC.out HK4.out h5
        have HO5 : OwnL u8v w5 w.heap.size _ acc := own_only HO4.out h5.only HSb.out
        have hcv := own_string HO5
        have HF : Hid (QPost rb s a bad w (.returned (.string ⟨acc.toArray⟩)) w5) := ⟨acc, a2, b2, rfl, HLen.out, HQ.1, HQ.2⟩
        clear HQ HO5 h5
        go_wp2
        go_ret
        exact HF.out
end
end Go.Proofs.YtfngjfnakokgmaaGreatDoor.Txt
