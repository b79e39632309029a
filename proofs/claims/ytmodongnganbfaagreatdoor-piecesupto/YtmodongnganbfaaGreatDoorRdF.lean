/- Replies: the document's first: a byte of the status line. -/
import Derived.Test.YtmodongnganbfaaGreatDoorRdEToReadGood
namespace Go.Proofs.YtmodongnganbfaaGreatDoor.Rep
open Go.RowKit Go.Proofs.YtmodongnganbfaaGreatDoor Go.Proofs.YtmodongnganbfaaGreatDoor.Sha
/-- Ahead of a head's end nothing is told of a part. -/
theorem part_same {m m' : Mc} {last fr tot : Value} (h : PartOf m last fr tot) (h1 : m.headed = false) (h2 : m'.headed = false) : PartOf m' last fr tot :=
  ⟨h.1, fun e => (by rw [h2] at e; cases e.1), fun _ => h.2.2 (fun e => by rw [h1] at e; cases e.1)⟩
theorem u8_eq (c d : UInt8) : c = d ↔ c.toNat = d.toNat := ⟨fun e => by rw [e], fun e => UInt8.toNat_inj.1 e⟩
set_option maxHeartbeats 4000000 in
set_option maxRecDepth 100000 in
theorem first_walk (mb limit : Nat) (m : Mc) (c : UInt8) (w : World) (h : DM mb limit m w) (hh : m.headed = false) (ha : m.at' ≤ 2) (h0 : m.at' = 0 → m.start < 9) (h1 : m.at' = 1 → m.start < 3) (hst : m.status ≤ 1000) :
    Calls Tryz.prog 20 #[.pointer (some ⟨mb, 0, none⟩), .int .u8 c.toNat] w fun e w' => e = .returned (.tuple #[]) ∧ Stepped mb limit (first m c) w' ∧ Only (· = mb) w w' := by
  obtain ⟨nv, vv, last, fr, tot, hR, hN, hV, n1, n2, n3, hP⟩ := h.ex
  have hP2 : ∀ m' : Mc, m'.headed = m.headed → m'.fields = m.fields → PartOf m' last fr tot := fun m' e _ => part_same hP hh (by rw [e]; exact hh)
  have c0 : w.cell? ⟨mb, 0, none⟩ = some (.int .i64 (m.at' : Int)) := hR.cell 0 _ rfl
  have c4 : w.cell? ⟨mb, 4, none⟩ = some (.int .i64 (m.start : Int)) := hR.cell 4 _ rfl
  have c15 : w.cell? ⟨mb, 15, none⟩ = some (.int .i64 (m.status : Int)) := hR.cell 15 _ rfl
  have f0 := hR.fro 0
  have f4 := hR.fro 4
  have f15 := hR.fro 15
  have hn := c.toNat_lt
  have hdig : isDigit c = (decide (48 ≤ c.toNat) && decide (c.toNat ≤ 57)) := rfl
  have hce := u8_eq c
  have HD : Hid (∀ w, Calls Tryz.prog 33 #[.int .u8 c.toNat, .string ⟨#[48, 49, 50, 51, 52, 53, 54, 55, 56, 57]⟩] w fun e w' => e = .returned (.bool (isDigit c)) ∧ w' = w) := digit_walk c
  obtain ⟨n, en⟩ : ∃ n, c.toNat = n := ⟨_, rfl⟩
  obtain ⟨dg, ed⟩ : ∃ dg, isDigit c = dg := ⟨_, rfl⟩
  have HFirst : Hid (first m c = first m c) := rfl
  rw [en] at hn hdig HD ⊢
  rw [ed] at hdig HD
  have hat : m.at' = 0 ∨ m.at' = 1 ∨ m.at' = 2 := by omega
  rcases hat with e0 | e1 | e2
  · have c0' : w.cell? ⟨mb, 0, none⟩ = some (.int .i64 0) := by rw [c0, e0]; rfl
    clear c0
    have hs := h0 e0
    have hss : m.start = 0 ∨ m.start = 1 ∨ m.start = 2 ∨ m.start = 3 ∨ m.start = 4 ∨ m.start = 5 ∨ m.start = 6 ∨ m.start = 7 ∨ m.start = 8 := by omega
    rcases hss with s0 | s0 | s0 | s0 | s0 | s0 | s0 | s0 | s0
    · have c4' : w.cell? ⟨mb, 4, none⟩ = some (.int .i64 0) := by rw [c4, s0]; rfl
      clear c4
      by_cases hc : c = 72
      · have hv : first m c = some { m with start := m.start + 1 } := by unfold first; rw [if_pos e0, if_pos (by rw [s0, hc]; rfl), if_neg (by omega)]
        have bn : ((n : Int) != ((((⟨#[72, 84, 84, 80, 47, 49, 46, 49, 32]⟩ : ByteArray)[0]'(by decide)).toNat : Nat) : Int)) = false := by show ((n : Int) != 72) = false; rw [← en, hc]; rfl
        clear hce hc en ed hdig
        rw [s0] at hv
        rw [hv]
        have HR : Hid (Stepped mb limit (some { m with start := 1 }) (w.setCell ⟨mb, 4, none⟩ (.int .i64 1))) := DM.mk' (m := m) (nv := nv) (vv := vv) (last := last) (fr := fr) (tot := tot) (by have q := (hR.set 4 (.int .i64 1) (by simp [encM])); exact q) rfl hN hV n1 n2 n3 ((Only.refl _ w).trans (Only.set (S := (· = mb)) _ 4 _ rfl)) (hP2 _ rfl rfl)
        have HK : Hid (Only (· = mb) w (w.setCell ⟨mb, 4, none⟩ (.int .i64 1))) := (Only.refl _ w).trans (Only.set (S := (· = mb)) _ 4 _ rfl)
        clear hv hR hN hV hP hP2 n3 h
        go_enter Tryz.func20, Tryz.ntmps20
        go_wp2_with fail
        refine (HD.out w).mono ?_
        rintro e w' ⟨rfl, rfl⟩
        go_wp2
        first | go_end0 | refine bodyPost_ret (results_none rfl _ _ _) rfl ?_
        exact ⟨rfl, HR.out, HK.out⟩
      · have hv : first m c = none := by unfold first; rw [if_pos e0, if_neg (by rw [s0]; intro e; exact hc (Option.some.inj e).symm)]
        have bn : ((n : Int) != ((((⟨#[72, 84, 84, 80, 47, 49, 46, 49, 32]⟩ : ByteArray)[0]'(by decide)).toNat : Nat) : Int)) = true := by show ((n : Int) != 72) = true; rw [bne_iff_ne]; intro e; exact hc ((hce 72).2 (by rw [en]; have : (72 : UInt8).toNat = 72 := rfl; omega))
        clear hce hc en ed hdig
        rw [hv]
        have HR : Hid (Stepped mb limit none (w.setCell ⟨mb, 0, none⟩ (.int .i64 15))) := by have q := (hR.set 0 (.int .i64 15) (by simp [encM])); exact ⟨{ m with at' := 15 }, nv, vv, last, fr, tot, q, rfl, (part_ints hP).1, (part_ints hP).2⟩
        have HK : Hid (Only (· = mb) w (w.setCell ⟨mb, 0, none⟩ (.int .i64 15))) := (Only.refl _ w).trans (Only.set (S := (· = mb)) _ 0 _ rfl)
        clear hv hR hN hV hP hP2 n3 h
        go_enter Tryz.func20, Tryz.ntmps20
        go_wp2_with fail
        refine (HD.out w).mono ?_
        rintro e w' ⟨rfl, rfl⟩
        go_wp2
        first | go_end0 | refine bodyPost_ret (results_none rfl _ _ _) rfl ?_
        exact ⟨rfl, HR.out, HK.out⟩
    · have c4' : w.cell? ⟨mb, 4, none⟩ = some (.int .i64 1) := by rw [c4, s0]; rfl
      clear c4
      by_cases hc : c = 84
      · have hv : first m c = some { m with start := m.start + 1 } := by unfold first; rw [if_pos e0, if_pos (by rw [s0, hc]; rfl), if_neg (by omega)]
        have bn : ((n : Int) != ((((⟨#[72, 84, 84, 80, 47, 49, 46, 49, 32]⟩ : ByteArray)[1]'(by decide)).toNat : Nat) : Int)) = false := by show ((n : Int) != 84) = false; rw [← en, hc]; rfl
        clear hce hc en ed hdig
        rw [s0] at hv
        rw [hv]
        have HR : Hid (Stepped mb limit (some { m with start := 2 }) (w.setCell ⟨mb, 4, none⟩ (.int .i64 2))) := DM.mk' (m := m) (nv := nv) (vv := vv) (last := last) (fr := fr) (tot := tot) (by have q := (hR.set 4 (.int .i64 2) (by simp [encM])); exact q) rfl hN hV n1 n2 n3 ((Only.refl _ w).trans (Only.set (S := (· = mb)) _ 4 _ rfl)) (hP2 _ rfl rfl)
        have HK : Hid (Only (· = mb) w (w.setCell ⟨mb, 4, none⟩ (.int .i64 2))) := (Only.refl _ w).trans (Only.set (S := (· = mb)) _ 4 _ rfl)
        clear hv hR hN hV hP hP2 n3 h
        go_enter Tryz.func20, Tryz.ntmps20
        go_wp2_with fail
        refine (HD.out w).mono ?_
        rintro e w' ⟨rfl, rfl⟩
        go_wp2
        first | go_end0 | refine bodyPost_ret (results_none rfl _ _ _) rfl ?_
        exact ⟨rfl, HR.out, HK.out⟩
      · have hv : first m c = none := by unfold first; rw [if_pos e0, if_neg (by rw [s0]; intro e; exact hc (Option.some.inj e).symm)]
        have bn : ((n : Int) != ((((⟨#[72, 84, 84, 80, 47, 49, 46, 49, 32]⟩ : ByteArray)[1]'(by decide)).toNat : Nat) : Int)) = true := by show ((n : Int) != 84) = true; rw [bne_iff_ne]; intro e; exact hc ((hce 84).2 (by rw [en]; have : (84 : UInt8).toNat = 84 := rfl; omega))
        clear hce hc en ed hdig
        rw [hv]
        have HR : Hid (Stepped mb limit none (w.setCell ⟨mb, 0, none⟩ (.int .i64 15))) := by have q := (hR.set 0 (.int .i64 15) (by simp [encM])); exact ⟨{ m with at' := 15 }, nv, vv, last, fr, tot, q, rfl, (part_ints hP).1, (part_ints hP).2⟩
        have HK : Hid (Only (· = mb) w (w.setCell ⟨mb, 0, none⟩ (.int .i64 15))) := (Only.refl _ w).trans (Only.set (S := (· = mb)) _ 0 _ rfl)
        clear hv hR hN hV hP hP2 n3 h
        go_enter Tryz.func20, Tryz.ntmps20
        go_wp2_with fail
        refine (HD.out w).mono ?_
        rintro e w' ⟨rfl, rfl⟩
        go_wp2
        first | go_end0 | refine bodyPost_ret (results_none rfl _ _ _) rfl ?_
        exact ⟨rfl, HR.out, HK.out⟩
    · have c4' : w.cell? ⟨mb, 4, none⟩ = some (.int .i64 2) := by rw [c4, s0]; rfl
      clear c4
      by_cases hc : c = 84
      · have hv : first m c = some { m with start := m.start + 1 } := by unfold first; rw [if_pos e0, if_pos (by rw [s0, hc]; rfl), if_neg (by omega)]
        have bn : ((n : Int) != ((((⟨#[72, 84, 84, 80, 47, 49, 46, 49, 32]⟩ : ByteArray)[2]'(by decide)).toNat : Nat) : Int)) = false := by show ((n : Int) != 84) = false; rw [← en, hc]; rfl
        clear hce hc en ed hdig
        rw [s0] at hv
        rw [hv]
        have HR : Hid (Stepped mb limit (some { m with start := 3 }) (w.setCell ⟨mb, 4, none⟩ (.int .i64 3))) := DM.mk' (m := m) (nv := nv) (vv := vv) (last := last) (fr := fr) (tot := tot) (by have q := (hR.set 4 (.int .i64 3) (by simp [encM])); exact q) rfl hN hV n1 n2 n3 ((Only.refl _ w).trans (Only.set (S := (· = mb)) _ 4 _ rfl)) (hP2 _ rfl rfl)
        have HK : Hid (Only (· = mb) w (w.setCell ⟨mb, 4, none⟩ (.int .i64 3))) := (Only.refl _ w).trans (Only.set (S := (· = mb)) _ 4 _ rfl)
        clear hv hR hN hV hP hP2 n3 h
        go_enter Tryz.func20, Tryz.ntmps20
        go_wp2_with fail
        refine (HD.out w).mono ?_
        rintro e w' ⟨rfl, rfl⟩
        go_wp2
        first | go_end0 | refine bodyPost_ret (results_none rfl _ _ _) rfl ?_
        exact ⟨rfl, HR.out, HK.out⟩
      · have hv : first m c = none := by unfold first; rw [if_pos e0, if_neg (by rw [s0]; intro e; exact hc (Option.some.inj e).symm)]
        have bn : ((n : Int) != ((((⟨#[72, 84, 84, 80, 47, 49, 46, 49, 32]⟩ : ByteArray)[2]'(by decide)).toNat : Nat) : Int)) = true := by show ((n : Int) != 84) = true; rw [bne_iff_ne]; intro e; exact hc ((hce 84).2 (by rw [en]; have : (84 : UInt8).toNat = 84 := rfl; omega))
        clear hce hc en ed hdig
        rw [hv]
        have HR : Hid (Stepped mb limit none (w.setCell ⟨mb, 0, none⟩ (.int .i64 15))) := by have q := (hR.set 0 (.int .i64 15) (by simp [encM])); exact ⟨{ m with at' := 15 }, nv, vv, last, fr, tot, q, rfl, (part_ints hP).1, (part_ints hP).2⟩
        have HK : Hid (Only (· = mb) w (w.setCell ⟨mb, 0, none⟩ (.int .i64 15))) := (Only.refl _ w).trans (Only.set (S := (· = mb)) _ 0 _ rfl)
        clear hv hR hN hV hP hP2 n3 h
        go_enter Tryz.func20, Tryz.ntmps20
        go_wp2_with fail
        refine (HD.out w).mono ?_
        rintro e w' ⟨rfl, rfl⟩
        go_wp2
        first | go_end0 | refine bodyPost_ret (results_none rfl _ _ _) rfl ?_
        exact ⟨rfl, HR.out, HK.out⟩
    · have c4' : w.cell? ⟨mb, 4, none⟩ = some (.int .i64 3) := by rw [c4, s0]; rfl
      clear c4
      by_cases hc : c = 80
      · have hv : first m c = some { m with start := m.start + 1 } := by unfold first; rw [if_pos e0, if_pos (by rw [s0, hc]; rfl), if_neg (by omega)]
        have bn : ((n : Int) != ((((⟨#[72, 84, 84, 80, 47, 49, 46, 49, 32]⟩ : ByteArray)[3]'(by decide)).toNat : Nat) : Int)) = false := by show ((n : Int) != 80) = false; rw [← en, hc]; rfl
        clear hce hc en ed hdig
        rw [s0] at hv
        rw [hv]
        have HR : Hid (Stepped mb limit (some { m with start := 4 }) (w.setCell ⟨mb, 4, none⟩ (.int .i64 4))) := DM.mk' (m := m) (nv := nv) (vv := vv) (last := last) (fr := fr) (tot := tot) (by have q := (hR.set 4 (.int .i64 4) (by simp [encM])); exact q) rfl hN hV n1 n2 n3 ((Only.refl _ w).trans (Only.set (S := (· = mb)) _ 4 _ rfl)) (hP2 _ rfl rfl)
        have HK : Hid (Only (· = mb) w (w.setCell ⟨mb, 4, none⟩ (.int .i64 4))) := (Only.refl _ w).trans (Only.set (S := (· = mb)) _ 4 _ rfl)
        clear hv hR hN hV hP hP2 n3 h
        go_enter Tryz.func20, Tryz.ntmps20
        go_wp2_with fail
        refine (HD.out w).mono ?_
        rintro e w' ⟨rfl, rfl⟩
        go_wp2
        first | go_end0 | refine bodyPost_ret (results_none rfl _ _ _) rfl ?_
        exact ⟨rfl, HR.out, HK.out⟩
      · have hv : first m c = none := by unfold first; rw [if_pos e0, if_neg (by rw [s0]; intro e; exact hc (Option.some.inj e).symm)]
        have bn : ((n : Int) != ((((⟨#[72, 84, 84, 80, 47, 49, 46, 49, 32]⟩ : ByteArray)[3]'(by decide)).toNat : Nat) : Int)) = true := by show ((n : Int) != 80) = true; rw [bne_iff_ne]; intro e; exact hc ((hce 80).2 (by rw [en]; have : (80 : UInt8).toNat = 80 := rfl; omega))
        clear hce hc en ed hdig
        rw [hv]
        have HR : Hid (Stepped mb limit none (w.setCell ⟨mb, 0, none⟩ (.int .i64 15))) := by have q := (hR.set 0 (.int .i64 15) (by simp [encM])); exact ⟨{ m with at' := 15 }, nv, vv, last, fr, tot, q, rfl, (part_ints hP).1, (part_ints hP).2⟩
        have HK : Hid (Only (· = mb) w (w.setCell ⟨mb, 0, none⟩ (.int .i64 15))) := (Only.refl _ w).trans (Only.set (S := (· = mb)) _ 0 _ rfl)
        clear hv hR hN hV hP hP2 n3 h
        go_enter Tryz.func20, Tryz.ntmps20
        go_wp2_with fail
        refine (HD.out w).mono ?_
        rintro e w' ⟨rfl, rfl⟩
        go_wp2
        first | go_end0 | refine bodyPost_ret (results_none rfl _ _ _) rfl ?_
        exact ⟨rfl, HR.out, HK.out⟩
    · have c4' : w.cell? ⟨mb, 4, none⟩ = some (.int .i64 4) := by rw [c4, s0]; rfl
      clear c4
      by_cases hc : c = 47
      · have hv : first m c = some { m with start := m.start + 1 } := by unfold first; rw [if_pos e0, if_pos (by rw [s0, hc]; rfl), if_neg (by omega)]
        have bn : ((n : Int) != ((((⟨#[72, 84, 84, 80, 47, 49, 46, 49, 32]⟩ : ByteArray)[4]'(by decide)).toNat : Nat) : Int)) = false := by show ((n : Int) != 47) = false; rw [← en, hc]; rfl
        clear hce hc en ed hdig
        rw [s0] at hv
        rw [hv]
        have HR : Hid (Stepped mb limit (some { m with start := 5 }) (w.setCell ⟨mb, 4, none⟩ (.int .i64 5))) := DM.mk' (m := m) (nv := nv) (vv := vv) (last := last) (fr := fr) (tot := tot) (by have q := (hR.set 4 (.int .i64 5) (by simp [encM])); exact q) rfl hN hV n1 n2 n3 ((Only.refl _ w).trans (Only.set (S := (· = mb)) _ 4 _ rfl)) (hP2 _ rfl rfl)
        have HK : Hid (Only (· = mb) w (w.setCell ⟨mb, 4, none⟩ (.int .i64 5))) := (Only.refl _ w).trans (Only.set (S := (· = mb)) _ 4 _ rfl)
        clear hv hR hN hV hP hP2 n3 h
        go_enter Tryz.func20, Tryz.ntmps20
        go_wp2_with fail
        refine (HD.out w).mono ?_
        rintro e w' ⟨rfl, rfl⟩
        go_wp2
        first | go_end0 | refine bodyPost_ret (results_none rfl _ _ _) rfl ?_
        exact ⟨rfl, HR.out, HK.out⟩
      · have hv : first m c = none := by unfold first; rw [if_pos e0, if_neg (by rw [s0]; intro e; exact hc (Option.some.inj e).symm)]
        have bn : ((n : Int) != ((((⟨#[72, 84, 84, 80, 47, 49, 46, 49, 32]⟩ : ByteArray)[4]'(by decide)).toNat : Nat) : Int)) = true := by show ((n : Int) != 47) = true; rw [bne_iff_ne]; intro e; exact hc ((hce 47).2 (by rw [en]; have : (47 : UInt8).toNat = 47 := rfl; omega))
        clear hce hc en ed hdig
        rw [hv]
        have HR : Hid (Stepped mb limit none (w.setCell ⟨mb, 0, none⟩ (.int .i64 15))) := by have q := (hR.set 0 (.int .i64 15) (by simp [encM])); exact ⟨{ m with at' := 15 }, nv, vv, last, fr, tot, q, rfl, (part_ints hP).1, (part_ints hP).2⟩
        have HK : Hid (Only (· = mb) w (w.setCell ⟨mb, 0, none⟩ (.int .i64 15))) := (Only.refl _ w).trans (Only.set (S := (· = mb)) _ 0 _ rfl)
        clear hv hR hN hV hP hP2 n3 h
        go_enter Tryz.func20, Tryz.ntmps20
        go_wp2_with fail
        refine (HD.out w).mono ?_
        rintro e w' ⟨rfl, rfl⟩
        go_wp2
        first | go_end0 | refine bodyPost_ret (results_none rfl _ _ _) rfl ?_
        exact ⟨rfl, HR.out, HK.out⟩
    · have c4' : w.cell? ⟨mb, 4, none⟩ = some (.int .i64 5) := by rw [c4, s0]; rfl
      clear c4
      by_cases hc : c = 49
      · have hv : first m c = some { m with start := m.start + 1 } := by unfold first; rw [if_pos e0, if_pos (by rw [s0, hc]; rfl), if_neg (by omega)]
        have bn : ((n : Int) != ((((⟨#[72, 84, 84, 80, 47, 49, 46, 49, 32]⟩ : ByteArray)[5]'(by decide)).toNat : Nat) : Int)) = false := by show ((n : Int) != 49) = false; rw [← en, hc]; rfl
        clear hce hc en ed hdig
        rw [s0] at hv
        rw [hv]
        have HR : Hid (Stepped mb limit (some { m with start := 6 }) (w.setCell ⟨mb, 4, none⟩ (.int .i64 6))) := DM.mk' (m := m) (nv := nv) (vv := vv) (last := last) (fr := fr) (tot := tot) (by have q := (hR.set 4 (.int .i64 6) (by simp [encM])); exact q) rfl hN hV n1 n2 n3 ((Only.refl _ w).trans (Only.set (S := (· = mb)) _ 4 _ rfl)) (hP2 _ rfl rfl)
        have HK : Hid (Only (· = mb) w (w.setCell ⟨mb, 4, none⟩ (.int .i64 6))) := (Only.refl _ w).trans (Only.set (S := (· = mb)) _ 4 _ rfl)
        clear hv hR hN hV hP hP2 n3 h
        go_enter Tryz.func20, Tryz.ntmps20
        go_wp2_with fail
        refine (HD.out w).mono ?_
        rintro e w' ⟨rfl, rfl⟩
        go_wp2
        first | go_end0 | refine bodyPost_ret (results_none rfl _ _ _) rfl ?_
        exact ⟨rfl, HR.out, HK.out⟩
      · have hv : first m c = none := by unfold first; rw [if_pos e0, if_neg (by rw [s0]; intro e; exact hc (Option.some.inj e).symm)]
        have bn : ((n : Int) != ((((⟨#[72, 84, 84, 80, 47, 49, 46, 49, 32]⟩ : ByteArray)[5]'(by decide)).toNat : Nat) : Int)) = true := by show ((n : Int) != 49) = true; rw [bne_iff_ne]; intro e; exact hc ((hce 49).2 (by rw [en]; have : (49 : UInt8).toNat = 49 := rfl; omega))
        clear hce hc en ed hdig
        rw [hv]
        have HR : Hid (Stepped mb limit none (w.setCell ⟨mb, 0, none⟩ (.int .i64 15))) := by have q := (hR.set 0 (.int .i64 15) (by simp [encM])); exact ⟨{ m with at' := 15 }, nv, vv, last, fr, tot, q, rfl, (part_ints hP).1, (part_ints hP).2⟩
        have HK : Hid (Only (· = mb) w (w.setCell ⟨mb, 0, none⟩ (.int .i64 15))) := (Only.refl _ w).trans (Only.set (S := (· = mb)) _ 0 _ rfl)
        clear hv hR hN hV hP hP2 n3 h
        go_enter Tryz.func20, Tryz.ntmps20
        go_wp2_with fail
        refine (HD.out w).mono ?_
        rintro e w' ⟨rfl, rfl⟩
        go_wp2
        first | go_end0 | refine bodyPost_ret (results_none rfl _ _ _) rfl ?_
        exact ⟨rfl, HR.out, HK.out⟩
    · have c4' : w.cell? ⟨mb, 4, none⟩ = some (.int .i64 6) := by rw [c4, s0]; rfl
      clear c4
      by_cases hc : c = 46
      · have hv : first m c = some { m with start := m.start + 1 } := by unfold first; rw [if_pos e0, if_pos (by rw [s0, hc]; rfl), if_neg (by omega)]
        have bn : ((n : Int) != ((((⟨#[72, 84, 84, 80, 47, 49, 46, 49, 32]⟩ : ByteArray)[6]'(by decide)).toNat : Nat) : Int)) = false := by show ((n : Int) != 46) = false; rw [← en, hc]; rfl
        clear hce hc en ed hdig
        rw [s0] at hv
        rw [hv]
        have HR : Hid (Stepped mb limit (some { m with start := 7 }) (w.setCell ⟨mb, 4, none⟩ (.int .i64 7))) := DM.mk' (m := m) (nv := nv) (vv := vv) (last := last) (fr := fr) (tot := tot) (by have q := (hR.set 4 (.int .i64 7) (by simp [encM])); exact q) rfl hN hV n1 n2 n3 ((Only.refl _ w).trans (Only.set (S := (· = mb)) _ 4 _ rfl)) (hP2 _ rfl rfl)
        have HK : Hid (Only (· = mb) w (w.setCell ⟨mb, 4, none⟩ (.int .i64 7))) := (Only.refl _ w).trans (Only.set (S := (· = mb)) _ 4 _ rfl)
        clear hv hR hN hV hP hP2 n3 h
        go_enter Tryz.func20, Tryz.ntmps20
        go_wp2_with fail
        refine (HD.out w).mono ?_
        rintro e w' ⟨rfl, rfl⟩
        go_wp2
        first | go_end0 | refine bodyPost_ret (results_none rfl _ _ _) rfl ?_
        exact ⟨rfl, HR.out, HK.out⟩
      · have hv : first m c = none := by unfold first; rw [if_pos e0, if_neg (by rw [s0]; intro e; exact hc (Option.some.inj e).symm)]
        have bn : ((n : Int) != ((((⟨#[72, 84, 84, 80, 47, 49, 46, 49, 32]⟩ : ByteArray)[6]'(by decide)).toNat : Nat) : Int)) = true := by show ((n : Int) != 46) = true; rw [bne_iff_ne]; intro e; exact hc ((hce 46).2 (by rw [en]; have : (46 : UInt8).toNat = 46 := rfl; omega))
        clear hce hc en ed hdig
        rw [hv]
        have HR : Hid (Stepped mb limit none (w.setCell ⟨mb, 0, none⟩ (.int .i64 15))) := by have q := (hR.set 0 (.int .i64 15) (by simp [encM])); exact ⟨{ m with at' := 15 }, nv, vv, last, fr, tot, q, rfl, (part_ints hP).1, (part_ints hP).2⟩
        have HK : Hid (Only (· = mb) w (w.setCell ⟨mb, 0, none⟩ (.int .i64 15))) := (Only.refl _ w).trans (Only.set (S := (· = mb)) _ 0 _ rfl)
        clear hv hR hN hV hP hP2 n3 h
        go_enter Tryz.func20, Tryz.ntmps20
        go_wp2_with fail
        refine (HD.out w).mono ?_
        rintro e w' ⟨rfl, rfl⟩
        go_wp2
        first | go_end0 | refine bodyPost_ret (results_none rfl _ _ _) rfl ?_
        exact ⟨rfl, HR.out, HK.out⟩
    · have c4' : w.cell? ⟨mb, 4, none⟩ = some (.int .i64 7) := by rw [c4, s0]; rfl
      clear c4
      by_cases hc : c = 49
      · have hv : first m c = some { m with start := m.start + 1 } := by unfold first; rw [if_pos e0, if_pos (by rw [s0, hc]; rfl), if_neg (by omega)]
        have bn : ((n : Int) != ((((⟨#[72, 84, 84, 80, 47, 49, 46, 49, 32]⟩ : ByteArray)[7]'(by decide)).toNat : Nat) : Int)) = false := by show ((n : Int) != 49) = false; rw [← en, hc]; rfl
        clear hce hc en ed hdig
        rw [s0] at hv
        rw [hv]
        have HR : Hid (Stepped mb limit (some { m with start := 8 }) (w.setCell ⟨mb, 4, none⟩ (.int .i64 8))) := DM.mk' (m := m) (nv := nv) (vv := vv) (last := last) (fr := fr) (tot := tot) (by have q := (hR.set 4 (.int .i64 8) (by simp [encM])); exact q) rfl hN hV n1 n2 n3 ((Only.refl _ w).trans (Only.set (S := (· = mb)) _ 4 _ rfl)) (hP2 _ rfl rfl)
        have HK : Hid (Only (· = mb) w (w.setCell ⟨mb, 4, none⟩ (.int .i64 8))) := (Only.refl _ w).trans (Only.set (S := (· = mb)) _ 4 _ rfl)
        clear hv hR hN hV hP hP2 n3 h
        go_enter Tryz.func20, Tryz.ntmps20
        go_wp2_with fail
        refine (HD.out w).mono ?_
        rintro e w' ⟨rfl, rfl⟩
        go_wp2
        first | go_end0 | refine bodyPost_ret (results_none rfl _ _ _) rfl ?_
        exact ⟨rfl, HR.out, HK.out⟩
      · have hv : first m c = none := by unfold first; rw [if_pos e0, if_neg (by rw [s0]; intro e; exact hc (Option.some.inj e).symm)]
        have bn : ((n : Int) != ((((⟨#[72, 84, 84, 80, 47, 49, 46, 49, 32]⟩ : ByteArray)[7]'(by decide)).toNat : Nat) : Int)) = true := by show ((n : Int) != 49) = true; rw [bne_iff_ne]; intro e; exact hc ((hce 49).2 (by rw [en]; have : (49 : UInt8).toNat = 49 := rfl; omega))
        clear hce hc en ed hdig
        rw [hv]
        have HR : Hid (Stepped mb limit none (w.setCell ⟨mb, 0, none⟩ (.int .i64 15))) := by have q := (hR.set 0 (.int .i64 15) (by simp [encM])); exact ⟨{ m with at' := 15 }, nv, vv, last, fr, tot, q, rfl, (part_ints hP).1, (part_ints hP).2⟩
        have HK : Hid (Only (· = mb) w (w.setCell ⟨mb, 0, none⟩ (.int .i64 15))) := (Only.refl _ w).trans (Only.set (S := (· = mb)) _ 0 _ rfl)
        clear hv hR hN hV hP hP2 n3 h
        go_enter Tryz.func20, Tryz.ntmps20
        go_wp2_with fail
        refine (HD.out w).mono ?_
        rintro e w' ⟨rfl, rfl⟩
        go_wp2
        first | go_end0 | refine bodyPost_ret (results_none rfl _ _ _) rfl ?_
        exact ⟨rfl, HR.out, HK.out⟩
    · have c4' : w.cell? ⟨mb, 4, none⟩ = some (.int .i64 8) := by rw [c4, s0]; rfl
      clear c4
      by_cases hc : c = 32
      · have hv : first m c = some { m with at' := 1, start := 0 } := by unfold first; rw [if_pos e0, if_pos (by rw [s0, hc]; rfl), if_pos (by omega)]
        have bn : ((n : Int) != ((((⟨#[72, 84, 84, 80, 47, 49, 46, 49, 32]⟩ : ByteArray)[8]'(by decide)).toNat : Nat) : Int)) = false := by show ((n : Int) != 32) = false; rw [← en, hc]; rfl
        clear hce hc en ed hdig
        rw [hv]
        have HR : Hid (Stepped mb limit (some { m with at' := 1, start := 0 }) (((w.setCell ⟨mb, 4, none⟩ (.int .i64 9)).setCell ⟨mb, 0, none⟩ (.int .i64 1)).setCell ⟨mb, 4, none⟩ (.int .i64 0))) := DM.mk' (m := m) (nv := nv) (vv := vv) (last := last) (fr := fr) (tot := tot) (by have q := (((hR.set 4 (.int .i64 9) (by simp [encM])).set 0 (.int .i64 1) (by simp [encM])).set 4 (.int .i64 0) (by simp [encM])); exact q) rfl hN hV n1 n2 n3 ((((Only.refl _ w).trans (Only.set (S := (· = mb)) _ 4 _ rfl)).trans (Only.set (S := (· = mb)) _ 0 _ rfl)).trans (Only.set (S := (· = mb)) _ 4 _ rfl)) (hP2 _ rfl rfl)
        have HK : Hid (Only (· = mb) w (((w.setCell ⟨mb, 4, none⟩ (.int .i64 9)).setCell ⟨mb, 0, none⟩ (.int .i64 1)).setCell ⟨mb, 4, none⟩ (.int .i64 0))) := (((Only.refl _ w).trans (Only.set (S := (· = mb)) _ 4 _ rfl)).trans (Only.set (S := (· = mb)) _ 0 _ rfl)).trans (Only.set (S := (· = mb)) _ 4 _ rfl)
        clear hv hR hN hV hP hP2 n3 h
        go_enter Tryz.func20, Tryz.ntmps20
        go_wp2_with fail
        refine (HD.out w).mono ?_
        rintro e w' ⟨rfl, rfl⟩
        go_wp2
        first | go_end0 | refine bodyPost_ret (results_none rfl _ _ _) rfl ?_
        exact ⟨rfl, HR.out, HK.out⟩
      · have hv : first m c = none := by unfold first; rw [if_pos e0, if_neg (by rw [s0]; intro e; exact hc (Option.some.inj e).symm)]
        have bn : ((n : Int) != ((((⟨#[72, 84, 84, 80, 47, 49, 46, 49, 32]⟩ : ByteArray)[8]'(by decide)).toNat : Nat) : Int)) = true := by show ((n : Int) != 32) = true; rw [bne_iff_ne]; intro e; exact hc ((hce 32).2 (by rw [en]; have : (32 : UInt8).toNat = 32 := rfl; omega))
        clear hce hc en ed hdig
        rw [hv]
        have HR : Hid (Stepped mb limit none (w.setCell ⟨mb, 0, none⟩ (.int .i64 15))) := by have q := (hR.set 0 (.int .i64 15) (by simp [encM])); exact ⟨{ m with at' := 15 }, nv, vv, last, fr, tot, q, rfl, (part_ints hP).1, (part_ints hP).2⟩
        have HK : Hid (Only (· = mb) w (w.setCell ⟨mb, 0, none⟩ (.int .i64 15))) := (Only.refl _ w).trans (Only.set (S := (· = mb)) _ 0 _ rfl)
        clear hv hR hN hV hP hP2 n3 h
        go_enter Tryz.func20, Tryz.ntmps20
        go_wp2_with fail
        refine (HD.out w).mono ?_
        rintro e w' ⟨rfl, rfl⟩
        go_wp2
        first | go_end0 | refine bodyPost_ret (results_none rfl _ _ _) rfl ?_
        exact ⟨rfl, HR.out, HK.out⟩
  · have c0' : w.cell? ⟨mb, 0, none⟩ = some (.int .i64 1) := by rw [c0, e1]; rfl
    clear c0
    have hs := h1 e1
    cases dg with
    | false =>
      have hv : first m c = none := by unfold first; rw [if_neg (by omega), if_pos e1, if_neg (by rw [ed]; simp)]
      clear hce en ed hdig
      rw [hv]
      have HR : Hid (Stepped mb limit none (w.setCell ⟨mb, 0, none⟩ (.int .i64 15))) := by have q := (hR.set 0 (.int .i64 15) (by simp [encM])); exact ⟨{ m with at' := 15 }, nv, vv, last, fr, tot, q, rfl, (part_ints hP).1, (part_ints hP).2⟩
      have HK : Hid (Only (· = mb) w (w.setCell ⟨mb, 0, none⟩ (.int .i64 15))) := (Only.refl _ w).trans (Only.set (S := (· = mb)) _ 0 _ rfl)
      clear hv hR hN hV hP hP2 n3 h
      go_enter Tryz.func20, Tryz.ntmps20
      go_wp2_with fail
      refine (HD.out w).mono ?_
      rintro e w' ⟨rfl, rfl⟩
      go_wp2
      first | go_end0 | refine bodyPost_ret (results_none rfl _ _ _) rfl ?_
      exact ⟨rfl, HR.out, HK.out⟩
    | true =>
      have h48 : 48 ≤ n ∧ n ≤ 57 := by simpa using hdig.symm
      have hss : m.start = 0 ∨ m.start = 1 ∨ m.start = 2 := by omega
      rcases hss with s0 | s0 | s0
      · have c4' : w.cell? ⟨mb, 4, none⟩ = some (.int .i64 0) := by rw [c4, s0]; rfl
        clear c4
        by_cases hlow : n < 49
        · have hv : first m c = none := by unfold first; rw [if_neg (by omega), if_pos e1, if_neg (by rw [ed, s0, en]; simp; omega)]
          have g1 : (n : Int) < 49 := by omega
          clear hce en ed hdig
          rw [hv]
          have HR : Hid (Stepped mb limit none (w.setCell ⟨mb, 0, none⟩ (.int .i64 15))) := by have q := (hR.set 0 (.int .i64 15) (by simp [encM])); exact ⟨{ m with at' := 15 }, nv, vv, last, fr, tot, q, rfl, (part_ints hP).1, (part_ints hP).2⟩
          have HK : Hid (Only (· = mb) w (w.setCell ⟨mb, 0, none⟩ (.int .i64 15))) := (Only.refl _ w).trans (Only.set (S := (· = mb)) _ 0 _ rfl)
          clear hv hR hN hV hP hP2 n3 h
          go_enter Tryz.func20, Tryz.ntmps20
          go_wp2_with fail
          refine (HD.out w).mono ?_
          rintro e w' ⟨rfl, rfl⟩
          go_wp2
          first | go_end0 | refine bodyPost_ret (results_none rfl _ _ _) rfl ?_
          exact ⟨rfl, HR.out, HK.out⟩
        · have g1 : ¬ (n : Int) < 49 := by omega
          by_cases hhi : 53 < n
          · have hv : first m c = none := by unfold first; rw [if_neg (by omega), if_pos e1, if_neg (by rw [ed, s0, en]; simp; omega)]
            have g2 : (53 : Int) < (n : Int) := by omega
            clear hce en ed hdig
            rw [hv]
            have HR : Hid (Stepped mb limit none (w.setCell ⟨mb, 0, none⟩ (.int .i64 15))) := by have q := (hR.set 0 (.int .i64 15) (by simp [encM])); exact ⟨{ m with at' := 15 }, nv, vv, last, fr, tot, q, rfl, (part_ints hP).1, (part_ints hP).2⟩
            have HK : Hid (Only (· = mb) w (w.setCell ⟨mb, 0, none⟩ (.int .i64 15))) := (Only.refl _ w).trans (Only.set (S := (· = mb)) _ 0 _ rfl)
            clear hv hR hN hV hP hP2 n3 h
            go_enter Tryz.func20, Tryz.ntmps20
            go_wp2_with fail
            refine (HD.out w).mono ?_
            rintro e w' ⟨rfl, rfl⟩
            go_wp2
            first | go_end0 | refine bodyPost_ret (results_none rfl _ _ _) rfl ?_
            exact ⟨rfl, HR.out, HK.out⟩
          · have g2 : ¬ (53 : Int) < (n : Int) := by omega
            have hv : first m c = some { m with status := 10 * m.status + (n - 48), start := 1 } := by unfold first; rw [if_neg (by omega), if_pos e1, if_pos (by rw [ed, s0, en]; simp; omega), s0, if_neg (by decide), en]
            have hcast : ((n - 48 : Nat) : Int) = (n : Int) - 48 := by omega
            clear hce en ed hdig
            rw [hv]
            have HR : Hid (Stepped mb limit (some { m with status := 10 * m.status + (n - 48), start := 1 }) ((w.setCell ⟨mb, 15, none⟩ (.int .i64 (10 * (m.status : Int) + ((n : Int) - 48)))).setCell ⟨mb, 4, none⟩ (.int .i64 1))) := DM.mk' (m := m) (nv := nv) (vv := vv) (last := last) (fr := fr) (tot := tot) (by have q := ((hR.set 15 (.int .i64 (10 * (m.status : Int) + ((n : Int) - 48))) (by simp [encM])).set 4 (.int .i64 1) (by simp [encM])); simp only [encM, Int.natCast_add, Int.natCast_mul, hcast] at q ⊢; exact q) rfl hN hV n1 n2 n3 (((Only.refl _ w).trans (Only.set (S := (· = mb)) _ 15 _ rfl)).trans (Only.set (S := (· = mb)) _ 4 _ rfl)) (hP2 _ rfl rfl)
            have HK : Hid (Only (· = mb) w ((w.setCell ⟨mb, 15, none⟩ (.int .i64 (10 * (m.status : Int) + ((n : Int) - 48)))).setCell ⟨mb, 4, none⟩ (.int .i64 1))) := ((Only.refl _ w).trans (Only.set (S := (· = mb)) _ 15 _ rfl)).trans (Only.set (S := (· = mb)) _ 4 _ rfl)
            clear hv hR hN hV hP hP2 n3 h
            go_enter Tryz.func20, Tryz.ntmps20
            go_wp2_with fail
            refine (HD.out w).mono ?_
            rintro e w' ⟨rfl, rfl⟩
            go_wp2
            first | go_end0 | refine bodyPost_ret (results_none rfl _ _ _) rfl ?_
            exact ⟨rfl, HR.out, HK.out⟩
      · have c4' : w.cell? ⟨mb, 4, none⟩ = some (.int .i64 1) := by rw [c4, s0]; rfl
        clear c4
        have hv : first m c = some { m with status := 10 * m.status + (n - 48), start := 2 } := by unfold first; rw [if_neg (by omega), if_pos e1, if_pos (by rw [ed, s0, en]; simp), s0, if_neg (by decide), en]
        have hcast : ((n - 48 : Nat) : Int) = (n : Int) - 48 := by omega
        clear hce en ed hdig
        rw [hv]
        have HR : Hid (Stepped mb limit (some { m with status := 10 * m.status + (n - 48), start := 2 }) ((w.setCell ⟨mb, 15, none⟩ (.int .i64 (10 * (m.status : Int) + ((n : Int) - 48)))).setCell ⟨mb, 4, none⟩ (.int .i64 2))) := DM.mk' (m := m) (nv := nv) (vv := vv) (last := last) (fr := fr) (tot := tot) (by have q := ((hR.set 15 (.int .i64 (10 * (m.status : Int) + ((n : Int) - 48))) (by simp [encM])).set 4 (.int .i64 2) (by simp [encM])); simp only [encM, Int.natCast_add, Int.natCast_mul, hcast] at q ⊢; exact q) rfl hN hV n1 n2 n3 (((Only.refl _ w).trans (Only.set (S := (· = mb)) _ 15 _ rfl)).trans (Only.set (S := (· = mb)) _ 4 _ rfl)) (hP2 _ rfl rfl)
        have HK : Hid (Only (· = mb) w ((w.setCell ⟨mb, 15, none⟩ (.int .i64 (10 * (m.status : Int) + ((n : Int) - 48)))).setCell ⟨mb, 4, none⟩ (.int .i64 2))) := ((Only.refl _ w).trans (Only.set (S := (· = mb)) _ 15 _ rfl)).trans (Only.set (S := (· = mb)) _ 4 _ rfl)
        clear hv hR hN hV hP hP2 n3 h
        go_enter Tryz.func20, Tryz.ntmps20
        go_wp2_with fail
        refine (HD.out w).mono ?_
        rintro e w' ⟨rfl, rfl⟩
        go_wp2
        first | go_end0 | refine bodyPost_ret (results_none rfl _ _ _) rfl ?_
        exact ⟨rfl, HR.out, HK.out⟩
      · have c4' : w.cell? ⟨mb, 4, none⟩ = some (.int .i64 2) := by rw [c4, s0]; rfl
        clear c4
        have hv : first m c = some { m with status := 10 * m.status + (n - 48), start := 3, at' := 2 } := by unfold first; rw [if_neg (by omega), if_pos e1, if_pos (by rw [ed, s0, en]; simp), s0, if_pos rfl, en]
        have hcast : ((n - 48 : Nat) : Int) = (n : Int) - 48 := by omega
        clear hce en ed hdig
        rw [hv]
        have HR : Hid (Stepped mb limit (some { m with status := 10 * m.status + (n - 48), start := 3, at' := 2 }) (((w.setCell ⟨mb, 15, none⟩ (.int .i64 (10 * (m.status : Int) + ((n : Int) - 48)))).setCell ⟨mb, 4, none⟩ (.int .i64 3)).setCell ⟨mb, 0, none⟩ (.int .i64 2))) := DM.mk' (m := m) (nv := nv) (vv := vv) (last := last) (fr := fr) (tot := tot) (by have q := (((hR.set 15 (.int .i64 (10 * (m.status : Int) + ((n : Int) - 48))) (by simp [encM])).set 4 (.int .i64 3) (by simp [encM])).set 0 (.int .i64 2) (by simp [encM])); simp only [encM, Int.natCast_add, Int.natCast_mul, hcast] at q ⊢; exact q) rfl hN hV n1 n2 n3 ((((Only.refl _ w).trans (Only.set (S := (· = mb)) _ 15 _ rfl)).trans (Only.set (S := (· = mb)) _ 4 _ rfl)).trans (Only.set (S := (· = mb)) _ 0 _ rfl)) (hP2 _ rfl rfl)
        have HK : Hid (Only (· = mb) w (((w.setCell ⟨mb, 15, none⟩ (.int .i64 (10 * (m.status : Int) + ((n : Int) - 48)))).setCell ⟨mb, 4, none⟩ (.int .i64 3)).setCell ⟨mb, 0, none⟩ (.int .i64 2))) := (((Only.refl _ w).trans (Only.set (S := (· = mb)) _ 15 _ rfl)).trans (Only.set (S := (· = mb)) _ 4 _ rfl)).trans (Only.set (S := (· = mb)) _ 0 _ rfl)
        clear hv hR hN hV hP hP2 n3 h
        go_enter Tryz.func20, Tryz.ntmps20
        go_wp2_with fail
        refine (HD.out w).mono ?_
        rintro e w' ⟨rfl, rfl⟩
        go_wp2
        first | go_end0 | refine bodyPost_ret (results_none rfl _ _ _) rfl ?_
        exact ⟨rfl, HR.out, HK.out⟩
  · have c0' : w.cell? ⟨mb, 0, none⟩ = some (.int .i64 2) := by rw [c0, e2]; rfl
    clear c0
    by_cases hc : c = 32
    · have hv : first m c = some { m with at' := 3 } := by unfold first; rw [if_neg (by omega), if_neg (by omega), if_pos hc]
      have bn : ((n : Int) != 32) = false := by rw [← en, hc]; rfl
      clear hce hc en ed hdig
      rw [hv]
      have HR : Hid (Stepped mb limit (some { m with at' := 3 }) (w.setCell ⟨mb, 0, none⟩ (.int .i64 3))) := DM.mk' (m := m) (nv := nv) (vv := vv) (last := last) (fr := fr) (tot := tot) (by have q := (hR.set 0 (.int .i64 3) (by simp [encM])); exact q) rfl hN hV n1 n2 n3 ((Only.refl _ w).trans (Only.set (S := (· = mb)) _ 0 _ rfl)) (hP2 _ rfl rfl)
      have HK : Hid (Only (· = mb) w (w.setCell ⟨mb, 0, none⟩ (.int .i64 3))) := (Only.refl _ w).trans (Only.set (S := (· = mb)) _ 0 _ rfl)
      clear hv hR hN hV hP hP2 n3 h
      go_enter Tryz.func20, Tryz.ntmps20
      go_wp2_with fail
      refine (HD.out w).mono ?_
      rintro e w' ⟨rfl, rfl⟩
      go_wp2
      first | go_end0 | refine bodyPost_ret (results_none rfl _ _ _) rfl ?_
      exact ⟨rfl, HR.out, HK.out⟩
    · have hv : first m c = none := by unfold first; rw [if_neg (by omega), if_neg (by omega), if_neg hc]
      have bn : ((n : Int) != 32) = true := by rw [bne_iff_ne]; intro e; exact hc ((hce 32).2 (by rw [en]; have : (32 : UInt8).toNat = 32 := rfl; omega))
      clear hce hc en ed hdig
      rw [hv]
      have HR : Hid (Stepped mb limit none ((w.setCell ⟨mb, 0, none⟩ (.int .i64 3)).setCell ⟨mb, 0, none⟩ (.int .i64 15))) := by have q := ((hR.set 0 (.int .i64 3) (by simp [encM])).set 0 (.int .i64 15) (by simp [encM])); exact ⟨{ m with at' := 15 }, nv, vv, last, fr, tot, q, rfl, (part_ints hP).1, (part_ints hP).2⟩
      have HK : Hid (Only (· = mb) w ((w.setCell ⟨mb, 0, none⟩ (.int .i64 3)).setCell ⟨mb, 0, none⟩ (.int .i64 15))) := ((Only.refl _ w).trans (Only.set (S := (· = mb)) _ 0 _ rfl)).trans (Only.set (S := (· = mb)) _ 0 _ rfl)
      clear hv hR hN hV hP hP2 n3 h
      go_enter Tryz.func20, Tryz.ntmps20
      go_wp2_with fail
      refine (HD.out w).mono ?_
      rintro e w' ⟨rfl, rfl⟩
      go_wp2
      first | go_end0 | refine bodyPost_ret (results_none rfl _ _ _) rfl ?_
      exact ⟨rfl, HR.out, HK.out⟩
end Go.Proofs.YtmodongnganbfaaGreatDoor.Rep
