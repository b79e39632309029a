/- Replies: the document's inBody: a byte of a body. -/
import Derived.Test.YtmodongnganbfaaGreatDoorRdEToReadGood
import Derived.Laws.IdiomStrings
import Derived.BigQuiet
import Derived.Deep.QuietTactic
import Derived.BigRegion
import Derived.ChangeAlike
namespace Go.Proofs.YtmodongnganbfaaGreatDoor.Rep
open Go.RowKit Go.Proofs.YtmodongnganbfaaGreatDoor Go.Proofs.YtmodongnganbfaaGreatDoor.Sha
theorem add_byte (l : Bytes) (c : UInt8) (hl : l.length + 1 ≤ 9223372036854775807) (wx : World) : (Op.stringOp .add ⟨l.toArray⟩ ⟨#[c]⟩).run Tryz.prog wx = .ok (.string ⟨(l ++ [c]).toArray⟩) wx := by
  have hla : (ByteArray.mk l.toArray).size = l.length := by show l.toArray.size = _; simp
  have hlb : (ByteArray.mk #[c]).size = 1 := rfl
  rw [run_string_add_sum wx _ _ (by omega)]
  congr 2
theorem conv_byte (wx : World) (g : Nat) (c : UInt8) (hc : wx.cell? ⟨g, 0, none⟩ = some (.int .u8 c.toNat)) (cap : Nat) : (convert 48 9 (.slice (some ⟨g, 0, none⟩) 1 cap)).run Tryz.prog wx = .ok (.string ⟨#[c]⟩) wx :=
  run_convert_bytes_back wx 48 9 5 ⟨g, 0, none⟩ cap [c] Tryz.underlying48 Tryz.underlying5 Tryz.underlying9 (fun j hj => by
    have : j = 0 := by simp at hj; exact hj
    subst this
    exact hc)
theorem Row.cast {w : World} {b : Nat} {xs ys : List Value} (h : Row w b xs) (e : xs = ys) : Row w b ys := by rw [← e]; exact h
theorem Row.alloc {w : World} {b : Nat} {xs : List Value} (h : Row w b xs) (hp : 0 < xs.length) (o : Obj) : Row (w.alloc o) b xs := h.below hp ((Below.refl _ _).alloc (Nat.le_refl _) o)
theorem Only.alloc (S : Nat → Prop) (w : World) (o : Obj) : Only S w (w.alloc o) := Only.of_below ((Below.refl _ _).alloc (Nat.le_refl _) o)
/-- A byte more at a text of the machine's. -/
theorem grown_row {w : World} {mb : Nat} {xs : List Value} (h : Row w mb xs) (j : Nat) (v : Value) (hj : j < xs.length) (o : Obj) : Row ((w.setCell ⟨mb, j, none⟩ v).alloc o).drew mb (xs.set j v) :=
  ((h.set j v hj).alloc (by rw [List.length_set]; omega) o).drew 1
theorem grown_only (w : World) (mb j : Nat) (v : Value) (o : Obj) : Only (· = mb) w ((w.setCell ⟨mb, j, none⟩ v).alloc o).drew :=
  ((Only.set (S := (· = mb)) w j v rfl).trans (Only.alloc _ _ o)).trans (Only.drew _ _ 1)
theorem conv_new1 (w : World) (c : UInt8) (cap : Nat) : (convert 48 9 (.slice (some ⟨w.heap.size, 0, none⟩) 1 cap)).run Tryz.prog ((w.alloc (.cells #[.int .u8 c.toNat] 5)).drew) = .ok (.string ⟨#[c]⟩) ((w.alloc (.cells #[.int .u8 c.toNat] 5)).drew) :=
  conv_byte ((w.alloc (.cells #[.int .u8 c.toNat] 5)).drew) w.heap.size c (show (w.alloc (.cells #[.int .u8 c.toNat] 5)).cell? ⟨w.heap.size, 0, none⟩ = _ by simp) cap
theorem conv_new2 (w : World) (c : UInt8) (cap : Nat) : (convert 48 9 (.slice (some ⟨w.heap.size, 0, none⟩) 1 cap)).run Tryz.prog ((w.alloc (.cells #[.int .u8 c.toNat] 5)).drew.drew) = .ok (.string ⟨#[c]⟩) ((w.alloc (.cells #[.int .u8 c.toNat] 5)).drew.drew) :=
  conv_byte ((w.alloc (.cells #[.int .u8 c.toNat] 5)).drew.drew) w.heap.size c (show (w.alloc (.cells #[.int .u8 c.toNat] 5)).cell? ⟨w.heap.size, 0, none⟩ = _ by simp) cap
set_option maxHeartbeats 4000000 in
set_option maxRecDepth 100000 in
theorem inBody_walk (mb limit : Nat) (m : Mc) (c : UInt8) (w : World) (h : DM mb limit m w) (g : Good limit m) (ha : 10 ≤ m.at') (ha' : m.at' ≤ 13) :
    Calls Tryz.prog 24 #[.pointer (some ⟨mb, 0, none⟩), .int .u8 c.toNat] w fun e w' => e = .returned (.tuple #[]) ∧ Stepped mb limit (inBody limit m c) w' ∧ Only (· = mb) w w' := by
  obtain ⟨nv, vv, last, fr, tot, hR, hN, hV, n1, n2, n3, hP⟩ := h.ex
  have hH := g.h8 (by omega)
  have c0 : w.cell? ⟨mb, 0, none⟩ = some (.int .i64 (m.at' : Int)) := hR.cell 0 _ rfl
  have f0 := hR.fro 0
  have hlt := hR.lt (by simp [encM])
  have hbl := g.bl
  have hlim := g.lim
  have hzl := g.zl
  have a1 := add_byte m.body c (by omega)
  have cv := conv_new1 w c
  have HC : ∀ m', (m'.headed = m.headed ∧ m'.status = m.status ∧ m'.span = m.span) → PartOf m' last fr tot := by
    intro m' e
    unfold PartOf
    rw [e.1, e.2.1, e.2.2]
    exact hP
  have hat : m.at' = 10 ∨ m.at' = 11 ∨ m.at' = 12 ∨ m.at' = 13 := by omega
  have g10 := g.b10
  have g12 := g.b12
  have hG : Row ((w.setCell ⟨mb, 17, none⟩ (.string ⟨(m.body ++ [c]).toArray⟩)).alloc (.cells #[.int .u8 c.toNat] 5)).drew mb (encM limit nv vv last fr tot { m with body := m.body ++ [c] }) := (grown_row hR 17 (.string ⟨(m.body ++ [c]).toArray⟩) (by simp [encM]) _).cast rfl
  have hK1 := grown_only w mb 17 (.string ⟨(m.body ++ [c]).toArray⟩) (.cells #[.int .u8 c.toNat] 5)
  obtain ⟨w1, HW1⟩ : ∃ w1, Hid (((w.setCell ⟨mb, 17, none⟩ (.string ⟨(m.body ++ [c]).toArray⟩)).alloc (.cells #[.int .u8 c.toNat] 5)).drew = w1) := ⟨_, rfl⟩
  rw [HW1.out] at hG hK1
  have hfr := hR.fro
  have c11 : w.cell? ⟨mb, 11, none⟩ = some (.int .i64 (m.size : Int)) := hR.cell 11 _ rfl
  have c17 : w.cell? ⟨mb, 17, none⟩ = some (.string ⟨m.body.toArray⟩) := hR.cell 17 _ rfl
  have d0 : w1.cell? ⟨mb, 0, none⟩ = some (.int .i64 (m.at' : Int)) := hG.cell 0 _ rfl
  have d11 : w1.cell? ⟨mb, 11, none⟩ = some (.int .i64 (m.size : Int)) := hG.cell 11 _ rfl
  have f17 := hfr 17
  have e0 := hG.fro 0
  have e11 := hG.fro 11
  rcases hat with ea | ea | ea | ea
  · have c0' : w.cell? ⟨mb, 0, none⟩ = some (.int .i64 10) := by rw [c0, ea]; rfl
    have d0' : w1.cell? ⟨mb, 0, none⟩ = some (.int .i64 10) := by rw [d0, ea]; rfl
    clear c0 d0
    obtain ⟨hs, hs1⟩ := g10 ea
    have hcast : ((m.size - 1 : Nat) : Int) = (m.size : Int) - 1 := by omega
    have hRz : Row (w1.setCell ⟨mb, 11, none⟩ (.int .i64 ((m.size : Int) - 1))) mb (encM limit nv vv last fr tot { m with body := m.body ++ [c], size := m.size - 1 }) := (hG.set 11 (.int .i64 ((m.size : Int) - 1)) (by simp [encM])).cast (by simp [encM, hcast])
    have hKz : Only (· = mb) w (w1.setCell ⟨mb, 11, none⟩ (.int .i64 ((m.size : Int) - 1))) := hK1.trans (Only.set (S := (· = mb)) _ 11 _ rfl)
    by_cases hz : m.size - 1 = 0
    · have bz : (((m.size : Int) - 1) == 0) = true := by rw [beq_iff_eq]; omega
      have hv : inBody limit m c = some { m with body := m.body ++ [c], size := m.size - 1, at' := 11 } := by unfold inBody; rw [if_pos ea, if_pos hz]
      rw [hv]
      have HK : Hid (Only (· = mb) w ((w1.setCell ⟨mb, 11, none⟩ (.int .i64 ((m.size : Int) - 1))).setCell ⟨mb, 0, none⟩ (.int .i64 11))) := hKz.trans (Only.set (S := (· = mb)) _ 0 _ rfl)
      have HR : Hid (Stepped mb limit (some { m with body := m.body ++ [c], size := m.size - 1, at' := 11 }) ((w1.setCell ⟨mb, 11, none⟩ (.int .i64 ((m.size : Int) - 1))).setCell ⟨mb, 0, none⟩ (.int .i64 11))) := DM.mk' (m := m) (nv := nv) (vv := vv) (last := last) (fr := fr) (tot := tot) ((hRz.set 0 (.int .i64 11) (by simp [encM])).cast rfl) rfl hN hV n1 n2 n3 HK.out (HC _ ⟨rfl, rfl, rfl⟩)
      have HH : Hid (m.headed = true) := hH
      clear hv hR hRz hKz hN hV hP HC n3 h g g10 g12 hG hK1 hH hfr hcast hs ea ha ha' hz
      go_enter Tryz.func24, Tryz.ntmps24
      go_wp2_with fail
      go_big_region
      rw [HW1.out]
      go_wp2
      first | go_end0 | refine bodyPost_ret (results_none rfl _ _ _) rfl ?_
      exact ⟨rfl, HR.out, HK.out⟩
    · have bz : (((m.size : Int) - 1) == 0) = false := by rw [beq_eq_false_iff_ne]; omega
      have hv : inBody limit m c = some { m with body := m.body ++ [c], size := m.size - 1 } := by unfold inBody; rw [if_pos ea, if_neg hz]
      rw [hv]
      have HK : Hid (Only (· = mb) w (w1.setCell ⟨mb, 11, none⟩ (.int .i64 ((m.size : Int) - 1)))) := hKz
      have HR : Hid (Stepped mb limit (some { m with body := m.body ++ [c], size := m.size - 1 }) (w1.setCell ⟨mb, 11, none⟩ (.int .i64 ((m.size : Int) - 1)))) := DM.mk' (m := m) (nv := nv) (vv := vv) (last := last) (fr := fr) (tot := tot) hRz rfl hN hV n1 n2 n3 HK.out (HC _ ⟨rfl, rfl, rfl⟩)
      have HH : Hid (m.headed = true) := hH
      clear hv hR hRz hKz hN hV hP HC n3 h g g10 g12 hG hK1 hH hfr hcast hs ea ha ha' hz
      go_enter Tryz.func24, Tryz.ntmps24
      go_wp2_with fail
      go_big_region
      rw [HW1.out]
      go_wp2
      first | go_end0 | refine bodyPost_ret (results_none rfl _ _ _) rfl ?_
      exact ⟨rfl, HR.out, HK.out⟩
  · have c0' : w.cell? ⟨mb, 0, none⟩ = some (.int .i64 11) := by rw [c0, ea]; rfl
    have d0' : w1.cell? ⟨mb, 0, none⟩ = some (.int .i64 11) := by rw [d0, ea]; rfl
    clear c0 d0
    have c1 : w.cell? ⟨mb, 1, none⟩ = some (.int .i64 (m.thn : Int)) := hR.cell 1 _ rfl
    have f1 := hfr 1
    have hRa := (hR.set 0 (.int .i64 4) (by simp [encM])).set 1 (.int .i64 8) (by simp [encM])
    have hKa : Only (· = mb) w ((w.setCell ⟨mb, 0, none⟩ (.int .i64 4)).setCell ⟨mb, 1, none⟩ (.int .i64 8)) := (Only.set (S := (· = mb)) w 0 _ rfl).trans (Only.set (S := (· = mb)) _ 1 _ rfl)
    by_cases hc : c = 13
    · have hv : inBody limit m c = some { m with at' := 4, thn := 8 } := by unfold inBody; rw [if_neg (by omega), if_pos ea, if_pos hc]
      rw [hv]
      have bc : ((c.toNat : Int) != 13) = false := by rw [hc]; rfl
      have HR : Hid (Stepped mb limit (some { m with at' := 4, thn := 8 }) ((w.setCell ⟨mb, 0, none⟩ (.int .i64 4)).setCell ⟨mb, 1, none⟩ (.int .i64 8))) := DM.mk' (m := m) (nv := nv) (vv := vv) (last := last) (fr := fr) (tot := tot) (hRa.cast rfl) rfl hN hV n1 n2 n3 hKa (HC _ ⟨rfl, rfl, rfl⟩)
      have HK : Hid (Only (· = mb) w ((w.setCell ⟨mb, 0, none⟩ (.int .i64 4)).setCell ⟨mb, 1, none⟩ (.int .i64 8))) := hKa
      clear hv hR hRa hKa hN hV hP HC n3 h g g10 g12 hG hK1 hH hfr ea ha ha' hc
      go_enter Tryz.func24, Tryz.ntmps24
      go_wp2
      first | go_end0 | refine bodyPost_ret (results_none rfl _ _ _) rfl ?_
      exact ⟨rfl, HR.out, HK.out⟩
    · have hv : inBody limit m c = none := by unfold inBody; rw [if_neg (by omega), if_pos ea, if_neg hc]
      rw [hv]
      have bc : ((c.toNat : Int) != 13) = true := by rw [bne_iff_ne]; intro e; exact hc (UInt8.toNat_inj.1 (by have : (13 : UInt8).toNat = 13 := rfl; omega))
      have hRb := hRa.set 0 (.int .i64 15) (by simp [encM])
      have hq : Stepped mb limit none (((w.setCell ⟨mb, 0, none⟩ (.int .i64 4)).setCell ⟨mb, 1, none⟩ (.int .i64 8)).setCell ⟨mb, 0, none⟩ (.int .i64 15)) := ⟨{ m with at' := 15, thn := 8 }, nv, vv, last, fr, tot, hRb, rfl, (part_ints hP).1, (part_ints hP).2⟩
      have hKb := hKa.trans (Only.set (S := (· = mb)) _ 0 (.int .i64 15) rfl)
      have HR : Hid (Stepped mb limit none (((w.setCell ⟨mb, 0, none⟩ (.int .i64 4)).setCell ⟨mb, 1, none⟩ (.int .i64 8)).setCell ⟨mb, 0, none⟩ (.int .i64 15))) := hq
      have HK : Hid (Only (· = mb) w (((w.setCell ⟨mb, 0, none⟩ (.int .i64 4)).setCell ⟨mb, 1, none⟩ (.int .i64 8)).setCell ⟨mb, 0, none⟩ (.int .i64 15))) := hKb
      clear hv hR hRa hKa hN hV hP HC n3 h g g10 g12 hG hK1 hH hfr ea ha ha' hc hRb hq hKb
      go_enter Tryz.func24, Tryz.ntmps24
      go_wp2
      first | go_end0 | refine bodyPost_ret (results_none rfl _ _ _) rfl ?_
      exact ⟨rfl, HR.out, HK.out⟩
  · have c0' : w.cell? ⟨mb, 0, none⟩ = some (.int .i64 12) := by rw [c0, ea]; rfl
    have d0' : w1.cell? ⟨mb, 0, none⟩ = some (.int .i64 12) := by rw [d0, ea]; rfl
    clear c0 d0
    obtain ⟨hs, hs1⟩ := g12 ea
    have hcast : ((m.size - 1 : Nat) : Int) = (m.size : Int) - 1 := by omega
    have hRz : Row (w1.setCell ⟨mb, 11, none⟩ (.int .i64 ((m.size : Int) - 1))) mb (encM limit nv vv last fr tot { m with body := m.body ++ [c], size := m.size - 1 }) := (hG.set 11 (.int .i64 ((m.size : Int) - 1)) (by simp [encM])).cast (by simp [encM, hcast])
    have hKz : Only (· = mb) w (w1.setCell ⟨mb, 11, none⟩ (.int .i64 ((m.size : Int) - 1))) := hK1.trans (Only.set (S := (· = mb)) _ 11 _ rfl)
    by_cases hz : m.size - 1 = 0
    · have bz : (((m.size : Int) - 1) == 0) = true := by rw [beq_iff_eq]; omega
      have hv : inBody limit m c = done { m with body := m.body ++ [c], size := m.size - 1 } := by unfold inBody; rw [if_neg (by omega), if_neg (by omega), if_pos ea, if_pos hz]
      rw [hv]
      have HD : Hid (DM mb limit { m with body := m.body ++ [c], size := m.size - 1 } (w1.setCell ⟨mb, 11, none⟩ (.int .i64 ((m.size : Int) - 1)))) := DM.mk' (m := m) (nv := nv) (vv := vv) (last := last) (fr := fr) (tot := tot) hRz rfl hN hV n1 n2 n3 hKz (HC _ ⟨rfl, rfl, rfl⟩)
      have HK : Hid (Only (· = mb) w (w1.setCell ⟨mb, 11, none⟩ (.int .i64 ((m.size : Int) - 1)))) := hKz
      have HL : Hid ((m.body ++ [c]).length ≤ 1000000) := by show _ ≤ _; rw [List.length_append]; show _ + 1 ≤ _; omega
      have HH : Hid (m.headed = true) := hH
      clear hv hR hRz hKz hN hV hP HC n3 h g g10 g12 hG hK1 hH hfr hcast hs ea ha ha' hz
      go_enter Tryz.func24, Tryz.ntmps24
      go_wp2_with fail
      go_big_region
      rw [HW1.out]
      go_wp2_with fail
      refine (done_walk mb limit _ _ HD.out HH.out HL.out).mono ?_
      rintro e w' ⟨rfl, hS, hO⟩
      have HS : Hid (Stepped mb limit (done { m with body := m.body ++ [c], size := m.size - 1 }) w') := hS
      have HO : Hid (Only (· = mb) w w') := HK.out.trans hO
      clear hS hO
      go_wp2
      first | go_end0 | refine bodyPost_ret (results_none rfl _ _ _) rfl ?_
      exact ⟨rfl, HS.out, HO.out⟩
    · have bz : (((m.size : Int) - 1) == 0) = false := by rw [beq_eq_false_iff_ne]; omega
      have hv : inBody limit m c = some { m with body := m.body ++ [c], size := m.size - 1 } := by unfold inBody; rw [if_neg (by omega), if_neg (by omega), if_pos ea, if_neg hz]
      rw [hv]
      have HK : Hid (Only (· = mb) w (w1.setCell ⟨mb, 11, none⟩ (.int .i64 ((m.size : Int) - 1)))) := hKz
      have HR : Hid (Stepped mb limit (some { m with body := m.body ++ [c], size := m.size - 1 }) (w1.setCell ⟨mb, 11, none⟩ (.int .i64 ((m.size : Int) - 1)))) := DM.mk' (m := m) (nv := nv) (vv := vv) (last := last) (fr := fr) (tot := tot) hRz rfl hN hV n1 n2 n3 HK.out (HC _ ⟨rfl, rfl, rfl⟩)
      have HH : Hid (m.headed = true) := hH
      clear hv hR hRz hKz hN hV hP HC n3 h g g10 g12 hG hK1 hH hfr hcast hs ea ha ha' hz
      go_enter Tryz.func24, Tryz.ntmps24
      go_wp2_with fail
      go_big_region
      rw [HW1.out]
      go_wp2
      first | go_end0 | refine bodyPost_ret (results_none rfl _ _ _) rfl ?_
      exact ⟨rfl, HR.out, HK.out⟩
  · have c0' : w.cell? ⟨mb, 0, none⟩ = some (.int .i64 13) := by rw [c0, ea]; rfl
    have d0' : w1.cell? ⟨mb, 0, none⟩ = some (.int .i64 13) := by rw [d0, ea]; rfl
    clear c0 d0
    have c2 : w.cell? ⟨mb, 2, none⟩ = some (.int .i64 (limit : Int)) := hR.cell 2 _ rfl
    have hsz : (⟨m.body.toArray⟩ : ByteArray).size = m.body.length := by show m.body.toArray.size = _; simp
    have cv2 := conv_new2 w c
    have e2 : ((w.setCell ⟨mb, 17, none⟩ (.string ⟨(m.body ++ [c]).toArray⟩)).alloc (.cells #[.int .u8 c.toNat] 5)).drew.drew = w1.drew := by rw [HW1.out]
    by_cases hz : limit ≤ m.body.length
    · have bz : (limit : Int) ≤ ((⟨m.body.toArray⟩ : ByteArray).size : Int) := by omega
      have hv : inBody limit m c = none := by unfold inBody; rw [if_neg (by omega), if_neg (by omega), if_neg (by omega), if_pos ea, if_pos hz]
      rw [hv]
      have HR : Hid (Stepped mb limit none ((w.setCell ⟨mb, 0, none⟩ (.int .i64 15)).drew)) := by have q := (hR.set 0 (.int .i64 15) (by simp [encM])).drew 1; exact ⟨{ m with at' := 15 }, nv, vv, last, fr, tot, q, rfl, (part_ints hP).1, (part_ints hP).2⟩
      have HK : Hid (Only (· = mb) w ((w.setCell ⟨mb, 0, none⟩ (.int .i64 15)).drew)) := (Only.set (S := (· = mb)) w 0 _ rfl).trans (Only.drew _ _ 1)
      clear hv hR hN hV hP HC n3 h g g10 g12 hG hK1 hH hfr ea ha ha' hz
      go_enter Tryz.func24, Tryz.ntmps24
      go_wp2_with fail
      go_big_region
      go_wp2
      first | go_end0 | refine bodyPost_ret (results_none rfl _ _ _) rfl ?_
      exact ⟨rfl, HR.out, HK.out⟩
    · have bz : ¬ (limit : Int) ≤ ((⟨m.body.toArray⟩ : ByteArray).size : Int) := by omega
      have hv : inBody limit m c = some { m with body := m.body ++ [c] } := by unfold inBody; rw [if_neg (by omega), if_neg (by omega), if_neg (by omega), if_pos ea, if_neg hz]
      rw [hv]
      have HK : Hid (Only (· = mb) w w1.drew) := hK1.trans (Only.drew _ _ 1)
      have HR : Hid (Stepped mb limit (some { m with body := m.body ++ [c] }) w1.drew) := DM.mk' (m := m) (nv := nv) (vv := vv) (last := last) (fr := fr) (tot := tot) (hG.drew 1) rfl hN hV n1 n2 n3 HK.out (HC _ ⟨rfl, rfl, rfl⟩)
      have HE : Hid (((w.setCell ⟨mb, 17, none⟩ (.string ⟨(m.body ++ [c]).toArray⟩)).alloc (.cells #[.int .u8 c.toNat] 5)).drew.drew = w1.drew) := e2
      clear hv hR hN hV hP HC n3 h g g10 g12 hG hK1 hH hfr ea ha ha' hz e2 cv
      go_enter Tryz.func24, Tryz.ntmps24
      go_wp2_with fail
      go_big_region
      go_wp2_with fail
      go_big_region
      rw [HE.out]
      go_wp2
      first | go_end0 | refine bodyPost_ret (results_none rfl _ _ _) rfl ?_
      exact ⟨rfl, HR.out, HK.out⟩
end Go.Proofs.YtmodongnganbfaaGreatDoor.Rep
