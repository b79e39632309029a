/- Replies: the document's line: a byte of a reason, of fields, of an extension. -/
import Derived.Test.YtmodongnganbfaaGreatDoorRdHToRdT
namespace Go.Proofs.YtmodongnganbfaaGreatDoor.Rep
open Go.RowKit Go.Proofs.YtmodongnganbfaaGreatDoor Go.Proofs.YtmodongnganbfaaGreatDoor.Sha
theorem u8_eqb {c : UInt8} (d : UInt8) (n : Int) (hn : (d.toNat : Int) = n) (h : c = d) : ((c.toNat : Int) == n) = true := by rw [h, hn]; simp
theorem u8_neb {c : UInt8} (d : UInt8) (n : Int) (hn : (d.toNat : Int) = n) (h : c ≠ d) : ((c.toNat : Int) == n) = false := by
  rw [beq_eq_false_iff_ne]; intro e; exact h (UInt8.toNat_inj.1 (by omega))
theorem new_cell (w : World) (n : Nat) (h : w.heap.size = n) (v : Value) (t : TypeId) : (w.alloc (.cells #[v] t)).cell? ⟨n, 0, none⟩ = some v := by rw [← h]; simp
theorem below_set {w : World} (mb j : Nat) (v : Value) {w0 : World} (h : Below mb w0 w) : Below mb w0 (w.setCell ⟨mb, j, none⟩ v) :=
  ⟨h.os, h.tape, h.output, by simpa using h.size, fun k hk => (Below.heap_setCell w ⟨mb, j, none⟩ v k (fun e => by have e : k = mb := e; omega)).trans (h.block k hk)⟩
theorem below_of_only {S : Nat → Prop} {b : Nat} {w w' : World} (h : Only S w w') (hS : ∀ k, S k → b ≤ k) (hb : b ≤ w.heap.size) : Below b w w' := ⟨h.os, h.tape, h.output, h.size, fun k hk => h.block k (by omega) (fun e => by have := hS k e; omega)⟩
theorem part_keep {m m' : Mc} {last fr tot : Value} (hP : PartOf m last fr tot) (e1 : m'.headed = m.headed) (e2 : m'.status = m.status) (e3 : m'.span = m.span) : PartOf m' last fr tot := by
  unfold PartOf
  rw [e1, e2, e3]
  exact hP
set_option maxHeartbeats 4000000 in
set_option maxRecDepth 100000 in
theorem line5_cr (mb limit : Nat) (m : Mc) (c : UInt8) (w : World) (h : DM mb limit m w) (ha : m.at' = 5) (hT : isText c = false) (hM : isNameByte c = false) (h13 : c = 13) :
    Calls Tryz.prog 23 #[.pointer (some ⟨mb, 0, none⟩), .int .u8 c.toNat] w fun e w' => e = .returned (.tuple #[]) ∧ Stepped mb limit (some { m with at' := 4, thn := 14 }) w' ∧ Only (· = mb) w w' := by
  obtain ⟨nv, vv, last, fr, tot, hR, hN, hV, n1, n2, n3, hP⟩ := h.ex
  have c0 : w.cell? ⟨mb, 0, none⟩ = some (.int .i64 5) := by have q := hR.cell 0 _ rfl; rw [ha] at q; exact q
  have hlt := hR.lt (by simp [encM])
  have f0 := hR.fro 0
  have c1 : w.cell? ⟨mb, 1, none⟩ = some (.int .i64 (m.thn : Int)) := hR.cell 1 _ rfl
  have f1 := hR.fro 1
  have HS : Hid (∀ w, Calls Tryz.prog 37 #[.int .u8 c.toNat] w fun e w' => e = .returned (.bool false) ∧ w' = w) := fun w => by have q := seen_walk c w; rw [hT] at q; exact q
  have HM := name_walk c
  rw [hM] at HM
  have HM := HM
  have b13 := u8_eqb 13 13 rfl h13
  have HK : Hid (Only (· = mb) w ((w.setCell ⟨mb, 0, none⟩ (.int .i64 4)).setCell ⟨mb, 1, none⟩ (.int .i64 14))) := ((Only.refl _ w).trans (Only.set (S := (· = mb)) _ 0 _ rfl)).trans (Only.set (S := (· = mb)) _ 1 _ rfl)
  have HR : Hid (Stepped mb limit (some { m with at' := 4, thn := 14 }) ((w.setCell ⟨mb, 0, none⟩ (.int .i64 4)).setCell ⟨mb, 1, none⟩ (.int .i64 14))) := DM.mk' (m := m) (nv := nv) (vv := vv) (last := last) (fr := fr) (tot := tot) (((hR.set 0 (.int .i64 4) (by simp [encM])).set 1 (.int .i64 14) (by simp [encM])).cast rfl) rfl hN hV n1 n2 n3 (((Only.refl _ w).trans (Only.set (S := (· = mb)) _ 0 _ rfl)).trans (Only.set (S := (· = mb)) _ 1 _ rfl)) (part_keep hP rfl rfl rfl)
  clear hR hN hV hP n3 h ha hT hM h13
  go_enter Tryz.func23, Tryz.ntmps23
  go_wp2_with fail
  refine (HS.out w).mono ?_
  rintro e w' ⟨rfl, rfl⟩
  go_wp2_with fail
  refine (HM w').mono ?_
  rintro e w'' ⟨rfl, rfl⟩
  go_wp2
  first | go_end0 | refine bodyPost_ret (results_none rfl _ _ _) rfl ?_
  exact ⟨rfl, HR.out, HK.out⟩
set_option maxHeartbeats 4000000 in
set_option maxRecDepth 100000 in
theorem line5_name (mb limit : Nat) (m : Mc) (c : UInt8) (w : World) (h : DM mb limit m w) (ha : m.at' = 5) (hT : isText c = true) (hM : isNameByte c = true) (h13 : c ≠ 13) :
    Calls Tryz.prog 23 #[.pointer (some ⟨mb, 0, none⟩), .int .u8 c.toNat] w fun e w' => e = .returned (.tuple #[]) ∧ Stepped mb limit (some { m with at' := 6, name := [c] }) w' ∧ Only (· = mb) w w' := by
  obtain ⟨nv, vv, last, fr, tot, hR, hN, hV, n1, n2, n3, hP⟩ := h.ex
  have c0 : w.cell? ⟨mb, 0, none⟩ = some (.int .i64 5) := by have q := hR.cell 0 _ rfl; rw [ha] at q; exact q
  have hlt := hR.lt (by simp [encM])
  have f0 := hR.fro 0
  have c5 : w.cell? ⟨mb, 5, none⟩ = some (.string ⟨m.name.toArray⟩) := hR.cell 5 _ rfl
  have f5 := hR.fro 5
  have HS : Hid (∀ w, Calls Tryz.prog 37 #[.int .u8 c.toNat] w fun e w' => e = .returned (.bool true) ∧ w' = w) := fun w => by have q := seen_walk c w; rw [hT] at q; exact q
  have HM := name_walk c
  rw [hM] at HM
  have HM := HM
  have b13 := u8_neb 13 13 rfl h13
  have HK : Hid (Only (· = mb) w (((w.setCell ⟨mb, 0, none⟩ (.int .i64 6)).setCell ⟨mb, 5, none⟩ (.string ⟨[c].toArray⟩)).alloc (.cells #[.int .u8 c.toNat] 5))) := (((Only.refl _ w).trans (Only.set (S := (· = mb)) _ 0 _ rfl)).trans (Only.set (S := (· = mb)) _ 5 _ rfl)).trans (Only.alloc _ _ _)
  have HR : Hid (Stepped mb limit (some { m with at' := 6, name := [c] }) (((w.setCell ⟨mb, 0, none⟩ (.int .i64 6)).setCell ⟨mb, 5, none⟩ (.string ⟨[c].toArray⟩)).alloc (.cells #[.int .u8 c.toNat] 5))) := DM.mk' (m := m) (nv := nv) (vv := vv) (last := last) (fr := fr) (tot := tot) ((((hR.set 0 (.int .i64 6) (by simp [encM])).set 5 (.string ⟨[c].toArray⟩) (by simp [encM])).alloc (by simp [encM]) (.cells #[.int .u8 c.toNat] 5)).cast rfl) rfl hN hV n1 n2 n3 ((((Only.refl _ w).trans (Only.set (S := (· = mb)) _ 0 _ rfl)).trans (Only.set (S := (· = mb)) _ 5 _ rfl)).trans (Only.alloc _ _ _)) (part_keep hP rfl rfl rfl)
  have cv := conv_byte ((w.setCell ⟨mb, 0, none⟩ (.int .i64 6)).alloc (.cells #[.int .u8 c.toNat] 5)) w.heap.size c (new_cell _ _ (by simp) _ _)
  clear hR hN hV hP n3 h ha hT hM h13
  go_enter Tryz.func23, Tryz.ntmps23
  go_wp2_with fail
  refine (HS.out w).mono ?_
  rintro e w' ⟨rfl, rfl⟩
  go_wp2_with fail
  refine (HM w').mono ?_
  rintro e w'' ⟨rfl, rfl⟩
  go_wp2
  first | go_end0 | refine bodyPost_ret (results_none rfl _ _ _) rfl ?_
  exact ⟨rfl, HR.out, HK.out⟩
set_option maxHeartbeats 4000000 in
set_option maxRecDepth 100000 in
theorem line5_no_true (mb limit : Nat) (m : Mc) (c : UInt8) (w : World) (h : DM mb limit m w) (ha : m.at' = 5) (hT : isText c = true) (hM : isNameByte c = false) (h13 : c ≠ 13) :
    Calls Tryz.prog 23 #[.pointer (some ⟨mb, 0, none⟩), .int .u8 c.toNat] w fun e w' => e = .returned (.tuple #[]) ∧ Stepped mb limit (none) w' ∧ Only (· = mb) w w' := by
  obtain ⟨nv, vv, last, fr, tot, hR, hN, hV, n1, n2, n3, hP⟩ := h.ex
  have c0 : w.cell? ⟨mb, 0, none⟩ = some (.int .i64 5) := by have q := hR.cell 0 _ rfl; rw [ha] at q; exact q
  have hlt := hR.lt (by simp [encM])
  have f0 := hR.fro 0
  have HS : Hid (∀ w, Calls Tryz.prog 37 #[.int .u8 c.toNat] w fun e w' => e = .returned (.bool true) ∧ w' = w) := fun w => by have q := seen_walk c w; rw [hT] at q; exact q
  have HM := name_walk c
  rw [hM] at HM
  have HM := HM
  have b13 := u8_neb 13 13 rfl h13
  have HK : Hid (Only (· = mb) w (w.setCell ⟨mb, 0, none⟩ (.int .i64 15))) := (Only.refl _ w).trans (Only.set (S := (· = mb)) _ 0 _ rfl)
  have HR : Hid (Stepped mb limit none (w.setCell ⟨mb, 0, none⟩ (.int .i64 15))) := Stepped.broke hR (part_ints hP)
  clear hR hN hV hP n3 h ha hT hM h13
  go_enter Tryz.func23, Tryz.ntmps23
  go_wp2_with fail
  refine (HS.out w).mono ?_
  rintro e w' ⟨rfl, rfl⟩
  go_wp2_with fail
  refine (HM w').mono ?_
  rintro e w'' ⟨rfl, rfl⟩
  go_wp2
  first | go_end0 | refine bodyPost_ret (results_none rfl _ _ _) rfl ?_
  exact ⟨rfl, HR.out, HK.out⟩
set_option maxHeartbeats 4000000 in
set_option maxRecDepth 100000 in
theorem line5_no_false (mb limit : Nat) (m : Mc) (c : UInt8) (w : World) (h : DM mb limit m w) (ha : m.at' = 5) (hT : isText c = false) (hM : isNameByte c = false) (h13 : c ≠ 13) :
    Calls Tryz.prog 23 #[.pointer (some ⟨mb, 0, none⟩), .int .u8 c.toNat] w fun e w' => e = .returned (.tuple #[]) ∧ Stepped mb limit (none) w' ∧ Only (· = mb) w w' := by
  obtain ⟨nv, vv, last, fr, tot, hR, hN, hV, n1, n2, n3, hP⟩ := h.ex
  have c0 : w.cell? ⟨mb, 0, none⟩ = some (.int .i64 5) := by have q := hR.cell 0 _ rfl; rw [ha] at q; exact q
  have hlt := hR.lt (by simp [encM])
  have f0 := hR.fro 0
  have HS : Hid (∀ w, Calls Tryz.prog 37 #[.int .u8 c.toNat] w fun e w' => e = .returned (.bool false) ∧ w' = w) := fun w => by have q := seen_walk c w; rw [hT] at q; exact q
  have HM := name_walk c
  rw [hM] at HM
  have HM := HM
  have b13 := u8_neb 13 13 rfl h13
  have HK : Hid (Only (· = mb) w (w.setCell ⟨mb, 0, none⟩ (.int .i64 15))) := (Only.refl _ w).trans (Only.set (S := (· = mb)) _ 0 _ rfl)
  have HR : Hid (Stepped mb limit none (w.setCell ⟨mb, 0, none⟩ (.int .i64 15))) := Stepped.broke hR (part_ints hP)
  clear hR hN hV hP n3 h ha hT hM h13
  go_enter Tryz.func23, Tryz.ntmps23
  go_wp2_with fail
  refine (HS.out w).mono ?_
  rintro e w' ⟨rfl, rfl⟩
  go_wp2_with fail
  refine (HM w').mono ?_
  rintro e w'' ⟨rfl, rfl⟩
  go_wp2
  first | go_end0 | refine bodyPost_ret (results_none rfl _ _ _) rfl ?_
  exact ⟨rfl, HR.out, HK.out⟩
set_option maxHeartbeats 4000000 in
set_option maxRecDepth 100000 in
theorem line6_name (mb limit : Nat) (m : Mc) (c : UInt8) (w : World) (h : DM mb limit m w) (hnl : m.name.length ≤ 400) (ha : m.at' = 6) (hT : isText c = true) (hM : isNameByte c = true) :
    Calls Tryz.prog 23 #[.pointer (some ⟨mb, 0, none⟩), .int .u8 c.toNat] w fun e w' => e = .returned (.tuple #[]) ∧ Stepped mb limit (some { m with name := m.name ++ [c] }) w' ∧ Only (· = mb) w w' := by
  obtain ⟨nv, vv, last, fr, tot, hR, hN, hV, n1, n2, n3, hP⟩ := h.ex
  have c0 : w.cell? ⟨mb, 0, none⟩ = some (.int .i64 6) := by have q := hR.cell 0 _ rfl; rw [ha] at q; exact q
  have hlt := hR.lt (by simp [encM])
  have f0 := hR.fro 0
  have c5 : w.cell? ⟨mb, 5, none⟩ = some (.string ⟨m.name.toArray⟩) := hR.cell 5 _ rfl
  have f5 := hR.fro 5
  have HS : Hid (∀ w, Calls Tryz.prog 37 #[.int .u8 c.toNat] w fun e w' => e = .returned (.bool true) ∧ w' = w) := fun w => by have q := seen_walk c w; rw [hT] at q; exact q
  have HM := name_walk c
  rw [hM] at HM
  have HM := HM
  have HK : Hid (Only (· = mb) w (((w.setCell ⟨mb, 5, none⟩ (.string ⟨(m.name ++ [c]).toArray⟩)).alloc (.cells #[.int .u8 c.toNat] 5))).drew) := (((Only.refl _ w).trans (Only.set (S := (· = mb)) _ 5 _ rfl)).trans (Only.alloc _ _ _)).trans (Only.drew _ _ 1)
  have HR : Hid (Stepped mb limit (some { m with name := m.name ++ [c] }) (((w.setCell ⟨mb, 5, none⟩ (.string ⟨(m.name ++ [c]).toArray⟩)).alloc (.cells #[.int .u8 c.toNat] 5))).drew) := DM.mk' (m := m) (nv := nv) (vv := vv) (last := last) (fr := fr) (tot := tot) ((((hR.set 5 (.string ⟨(m.name ++ [c]).toArray⟩) (by simp [encM])).alloc (by simp [encM]) (.cells #[.int .u8 c.toNat] 5)).drew 1).cast rfl) rfl hN hV n1 n2 n3 ((((Only.refl _ w).trans (Only.set (S := (· = mb)) _ 5 _ rfl)).trans (Only.alloc _ _ _)).trans (Only.drew _ _ 1)) (part_keep hP rfl rfl rfl)
  have a1 := add_byte m.name c (by omega)
  have cv := conv_new1 w c
  clear hR hN hV hP n3 h ha hT hM
  go_enter Tryz.func23, Tryz.ntmps23
  go_wp2_with fail
  refine (HS.out w).mono ?_
  rintro e w' ⟨rfl, rfl⟩
  go_wp2_with fail
  refine (HM w').mono ?_
  rintro e w'' ⟨rfl, rfl⟩
  go_wp2_with fail
  go_big_region
  go_wp2
  first | go_end0 | refine bodyPost_ret (results_none rfl _ _ _) rfl ?_
  exact ⟨rfl, HR.out, HK.out⟩
set_option maxHeartbeats 4000000 in
set_option maxRecDepth 100000 in
theorem line6_colon (mb limit : Nat) (m : Mc) (c : UInt8) (w : World) (h : DM mb limit m w) (ha : m.at' = 6) (hT : isText c = true) (hM : isNameByte c = false) (h58 : c = 58) :
    Calls Tryz.prog 23 #[.pointer (some ⟨mb, 0, none⟩), .int .u8 c.toNat] w fun e w' => e = .returned (.tuple #[]) ∧ Stepped mb limit (some { m with at' := 7, value := [] }) w' ∧ Only (· = mb) w w' := by
  obtain ⟨nv, vv, last, fr, tot, hR, hN, hV, n1, n2, n3, hP⟩ := h.ex
  have c0 : w.cell? ⟨mb, 0, none⟩ = some (.int .i64 6) := by have q := hR.cell 0 _ rfl; rw [ha] at q; exact q
  have hlt := hR.lt (by simp [encM])
  have f0 := hR.fro 0
  have c6 : w.cell? ⟨mb, 6, none⟩ = some (.string ⟨m.value.toArray⟩) := hR.cell 6 _ rfl
  have f6 := hR.fro 6
  have HS : Hid (∀ w, Calls Tryz.prog 37 #[.int .u8 c.toNat] w fun e w' => e = .returned (.bool true) ∧ w' = w) := fun w => by have q := seen_walk c w; rw [hT] at q; exact q
  have HM := name_walk c
  rw [hM] at HM
  have HM := HM
  have b58 := u8_eqb 58 58 rfl h58
  have HK : Hid (Only (· = mb) w ((w.setCell ⟨mb, 0, none⟩ (.int .i64 7)).setCell ⟨mb, 6, none⟩ (.string ⟨#[]⟩))) := ((Only.refl _ w).trans (Only.set (S := (· = mb)) _ 0 _ rfl)).trans (Only.set (S := (· = mb)) _ 6 _ rfl)
  have HR : Hid (Stepped mb limit (some { m with at' := 7, value := [] }) ((w.setCell ⟨mb, 0, none⟩ (.int .i64 7)).setCell ⟨mb, 6, none⟩ (.string ⟨#[]⟩))) := DM.mk' (m := m) (nv := nv) (vv := vv) (last := last) (fr := fr) (tot := tot) (((hR.set 0 (.int .i64 7) (by simp [encM])).set 6 (.string ⟨#[]⟩) (by simp [encM])).cast rfl) rfl hN hV n1 n2 n3 (((Only.refl _ w).trans (Only.set (S := (· = mb)) _ 0 _ rfl)).trans (Only.set (S := (· = mb)) _ 6 _ rfl)) (part_keep hP rfl rfl rfl)
  clear hR hN hV hP n3 h ha hT hM h58
  go_enter Tryz.func23, Tryz.ntmps23
  go_wp2_with fail
  refine (HS.out w).mono ?_
  rintro e w' ⟨rfl, rfl⟩
  go_wp2_with fail
  refine (HM w').mono ?_
  rintro e w'' ⟨rfl, rfl⟩
  go_wp2
  first | go_end0 | refine bodyPost_ret (results_none rfl _ _ _) rfl ?_
  exact ⟨rfl, HR.out, HK.out⟩
set_option maxHeartbeats 4000000 in
set_option maxRecDepth 100000 in
theorem line6_no_true (mb limit : Nat) (m : Mc) (c : UInt8) (w : World) (h : DM mb limit m w) (ha : m.at' = 6) (hT : isText c = true) (hM : isNameByte c = false) (h58 : c ≠ 58) :
    Calls Tryz.prog 23 #[.pointer (some ⟨mb, 0, none⟩), .int .u8 c.toNat] w fun e w' => e = .returned (.tuple #[]) ∧ Stepped mb limit (none) w' ∧ Only (· = mb) w w' := by
  obtain ⟨nv, vv, last, fr, tot, hR, hN, hV, n1, n2, n3, hP⟩ := h.ex
  have c0 : w.cell? ⟨mb, 0, none⟩ = some (.int .i64 6) := by have q := hR.cell 0 _ rfl; rw [ha] at q; exact q
  have hlt := hR.lt (by simp [encM])
  have f0 := hR.fro 0
  have HS : Hid (∀ w, Calls Tryz.prog 37 #[.int .u8 c.toNat] w fun e w' => e = .returned (.bool true) ∧ w' = w) := fun w => by have q := seen_walk c w; rw [hT] at q; exact q
  have HM := name_walk c
  rw [hM] at HM
  have HM := HM
  have b58 := u8_neb 58 58 rfl h58
  have HK : Hid (Only (· = mb) w (w.setCell ⟨mb, 0, none⟩ (.int .i64 15))) := (Only.refl _ w).trans (Only.set (S := (· = mb)) _ 0 _ rfl)
  have HR : Hid (Stepped mb limit none (w.setCell ⟨mb, 0, none⟩ (.int .i64 15))) := Stepped.broke hR (part_ints hP)
  clear hR hN hV hP n3 h ha hT hM h58
  go_enter Tryz.func23, Tryz.ntmps23
  go_wp2_with fail
  refine (HS.out w).mono ?_
  rintro e w' ⟨rfl, rfl⟩
  go_wp2_with fail
  refine (HM w').mono ?_
  rintro e w'' ⟨rfl, rfl⟩
  go_wp2
  first | go_end0 | refine bodyPost_ret (results_none rfl _ _ _) rfl ?_
  exact ⟨rfl, HR.out, HK.out⟩
set_option maxHeartbeats 4000000 in
set_option maxRecDepth 100000 in
theorem line6_no_false (mb limit : Nat) (m : Mc) (c : UInt8) (w : World) (h : DM mb limit m w) (ha : m.at' = 6) (hT : isText c = false) (hM : isNameByte c = false) (h58 : c ≠ 58) :
    Calls Tryz.prog 23 #[.pointer (some ⟨mb, 0, none⟩), .int .u8 c.toNat] w fun e w' => e = .returned (.tuple #[]) ∧ Stepped mb limit (none) w' ∧ Only (· = mb) w w' := by
  obtain ⟨nv, vv, last, fr, tot, hR, hN, hV, n1, n2, n3, hP⟩ := h.ex
  have c0 : w.cell? ⟨mb, 0, none⟩ = some (.int .i64 6) := by have q := hR.cell 0 _ rfl; rw [ha] at q; exact q
  have hlt := hR.lt (by simp [encM])
  have f0 := hR.fro 0
  have HS : Hid (∀ w, Calls Tryz.prog 37 #[.int .u8 c.toNat] w fun e w' => e = .returned (.bool false) ∧ w' = w) := fun w => by have q := seen_walk c w; rw [hT] at q; exact q
  have HM := name_walk c
  rw [hM] at HM
  have HM := HM
  have b58 := u8_neb 58 58 rfl h58
  have HK : Hid (Only (· = mb) w (w.setCell ⟨mb, 0, none⟩ (.int .i64 15))) := (Only.refl _ w).trans (Only.set (S := (· = mb)) _ 0 _ rfl)
  have HR : Hid (Stepped mb limit none (w.setCell ⟨mb, 0, none⟩ (.int .i64 15))) := Stepped.broke hR (part_ints hP)
  clear hR hN hV hP n3 h ha hT hM h58
  go_enter Tryz.func23, Tryz.ntmps23
  go_wp2_with fail
  refine (HS.out w).mono ?_
  rintro e w' ⟨rfl, rfl⟩
  go_wp2_with fail
  refine (HM w').mono ?_
  rintro e w'' ⟨rfl, rfl⟩
  go_wp2
  first | go_end0 | refine bodyPost_ret (results_none rfl _ _ _) rfl ?_
  exact ⟨rfl, HR.out, HK.out⟩
set_option maxHeartbeats 4000000 in
set_option maxRecDepth 100000 in
theorem line7_text_true (mb limit : Nat) (m : Mc) (c : UInt8) (w : World) (h : DM mb limit m w) (hvl : m.value.length ≤ 400) (ha : m.at' = 7) (hT : isText c = true) (hM : isNameByte c = true) (h13 : c ≠ 13) :
    Calls Tryz.prog 23 #[.pointer (some ⟨mb, 0, none⟩), .int .u8 c.toNat] w fun e w' => e = .returned (.tuple #[]) ∧ Stepped mb limit (some { m with value := m.value ++ [c] }) w' ∧ Only (· = mb) w w' := by
  obtain ⟨nv, vv, last, fr, tot, hR, hN, hV, n1, n2, n3, hP⟩ := h.ex
  have c0 : w.cell? ⟨mb, 0, none⟩ = some (.int .i64 7) := by have q := hR.cell 0 _ rfl; rw [ha] at q; exact q
  have hlt := hR.lt (by simp [encM])
  have f0 := hR.fro 0
  have c6 : w.cell? ⟨mb, 6, none⟩ = some (.string ⟨m.value.toArray⟩) := hR.cell 6 _ rfl
  have f6 := hR.fro 6
  have HS : Hid (∀ w, Calls Tryz.prog 37 #[.int .u8 c.toNat] w fun e w' => e = .returned (.bool true) ∧ w' = w) := fun w => by have q := seen_walk c w; rw [hT] at q; exact q
  have HM := name_walk c
  rw [hM] at HM
  have HM := HM
  have b13 := u8_neb 13 13 rfl h13
  have HK : Hid (Only (· = mb) w (((w.setCell ⟨mb, 6, none⟩ (.string ⟨(m.value ++ [c]).toArray⟩)).alloc (.cells #[.int .u8 c.toNat] 5))).drew) := (((Only.refl _ w).trans (Only.set (S := (· = mb)) _ 6 _ rfl)).trans (Only.alloc _ _ _)).trans (Only.drew _ _ 1)
  have HR : Hid (Stepped mb limit (some { m with value := m.value ++ [c] }) (((w.setCell ⟨mb, 6, none⟩ (.string ⟨(m.value ++ [c]).toArray⟩)).alloc (.cells #[.int .u8 c.toNat] 5))).drew) := DM.mk' (m := m) (nv := nv) (vv := vv) (last := last) (fr := fr) (tot := tot) ((((hR.set 6 (.string ⟨(m.value ++ [c]).toArray⟩) (by simp [encM])).alloc (by simp [encM]) (.cells #[.int .u8 c.toNat] 5)).drew 1).cast rfl) rfl hN hV n1 n2 n3 ((((Only.refl _ w).trans (Only.set (S := (· = mb)) _ 6 _ rfl)).trans (Only.alloc _ _ _)).trans (Only.drew _ _ 1)) (part_keep hP rfl rfl rfl)
  have a1 := add_byte m.value c (by omega)
  have cv := conv_new1 w c
  clear hR hN hV hP n3 h ha hT hM h13
  go_enter Tryz.func23, Tryz.ntmps23
  go_wp2_with fail
  refine (HS.out w).mono ?_
  rintro e w' ⟨rfl, rfl⟩
  go_wp2_with fail
  refine (HM w').mono ?_
  rintro e w'' ⟨rfl, rfl⟩
  go_wp2_with fail
  go_big_region
  go_wp2
  first | go_end0 | refine bodyPost_ret (results_none rfl _ _ _) rfl ?_
  exact ⟨rfl, HR.out, HK.out⟩
set_option maxHeartbeats 4000000 in
set_option maxRecDepth 100000 in
theorem line7_text_false (mb limit : Nat) (m : Mc) (c : UInt8) (w : World) (h : DM mb limit m w) (hvl : m.value.length ≤ 400) (ha : m.at' = 7) (hT : isText c = true) (hM : isNameByte c = false) (h13 : c ≠ 13) :
    Calls Tryz.prog 23 #[.pointer (some ⟨mb, 0, none⟩), .int .u8 c.toNat] w fun e w' => e = .returned (.tuple #[]) ∧ Stepped mb limit (some { m with value := m.value ++ [c] }) w' ∧ Only (· = mb) w w' := by
  obtain ⟨nv, vv, last, fr, tot, hR, hN, hV, n1, n2, n3, hP⟩ := h.ex
  have c0 : w.cell? ⟨mb, 0, none⟩ = some (.int .i64 7) := by have q := hR.cell 0 _ rfl; rw [ha] at q; exact q
  have hlt := hR.lt (by simp [encM])
  have f0 := hR.fro 0
  have c6 : w.cell? ⟨mb, 6, none⟩ = some (.string ⟨m.value.toArray⟩) := hR.cell 6 _ rfl
  have f6 := hR.fro 6
  have HS : Hid (∀ w, Calls Tryz.prog 37 #[.int .u8 c.toNat] w fun e w' => e = .returned (.bool true) ∧ w' = w) := fun w => by have q := seen_walk c w; rw [hT] at q; exact q
  have HM := name_walk c
  rw [hM] at HM
  have HM := HM
  have b13 := u8_neb 13 13 rfl h13
  have HK : Hid (Only (· = mb) w (((w.setCell ⟨mb, 6, none⟩ (.string ⟨(m.value ++ [c]).toArray⟩)).alloc (.cells #[.int .u8 c.toNat] 5))).drew) := (((Only.refl _ w).trans (Only.set (S := (· = mb)) _ 6 _ rfl)).trans (Only.alloc _ _ _)).trans (Only.drew _ _ 1)
  have HR : Hid (Stepped mb limit (some { m with value := m.value ++ [c] }) (((w.setCell ⟨mb, 6, none⟩ (.string ⟨(m.value ++ [c]).toArray⟩)).alloc (.cells #[.int .u8 c.toNat] 5))).drew) := DM.mk' (m := m) (nv := nv) (vv := vv) (last := last) (fr := fr) (tot := tot) ((((hR.set 6 (.string ⟨(m.value ++ [c]).toArray⟩) (by simp [encM])).alloc (by simp [encM]) (.cells #[.int .u8 c.toNat] 5)).drew 1).cast rfl) rfl hN hV n1 n2 n3 ((((Only.refl _ w).trans (Only.set (S := (· = mb)) _ 6 _ rfl)).trans (Only.alloc _ _ _)).trans (Only.drew _ _ 1)) (part_keep hP rfl rfl rfl)
  have a1 := add_byte m.value c (by omega)
  have cv := conv_new1 w c
  clear hR hN hV hP n3 h ha hT hM h13
  go_enter Tryz.func23, Tryz.ntmps23
  go_wp2_with fail
  refine (HS.out w).mono ?_
  rintro e w' ⟨rfl, rfl⟩
  go_wp2_with fail
  refine (HM w').mono ?_
  rintro e w'' ⟨rfl, rfl⟩
  go_wp2_with fail
  go_big_region
  go_wp2
  first | go_end0 | refine bodyPost_ret (results_none rfl _ _ _) rfl ?_
  exact ⟨rfl, HR.out, HK.out⟩
set_option maxHeartbeats 4000000 in
set_option maxRecDepth 100000 in
theorem line7_no (mb limit : Nat) (m : Mc) (c : UInt8) (w : World) (h : DM mb limit m w) (ha : m.at' = 7) (hT : isText c = false) (hM : isNameByte c = false) (h13 : c ≠ 13) :
    Calls Tryz.prog 23 #[.pointer (some ⟨mb, 0, none⟩), .int .u8 c.toNat] w fun e w' => e = .returned (.tuple #[]) ∧ Stepped mb limit (none) w' ∧ Only (· = mb) w w' := by
  obtain ⟨nv, vv, last, fr, tot, hR, hN, hV, n1, n2, n3, hP⟩ := h.ex
  have c0 : w.cell? ⟨mb, 0, none⟩ = some (.int .i64 7) := by have q := hR.cell 0 _ rfl; rw [ha] at q; exact q
  have hlt := hR.lt (by simp [encM])
  have f0 := hR.fro 0
  have HS : Hid (∀ w, Calls Tryz.prog 37 #[.int .u8 c.toNat] w fun e w' => e = .returned (.bool false) ∧ w' = w) := fun w => by have q := seen_walk c w; rw [hT] at q; exact q
  have HM := name_walk c
  rw [hM] at HM
  have HM := HM
  have b13 := u8_neb 13 13 rfl h13
  have HK : Hid (Only (· = mb) w (w.setCell ⟨mb, 0, none⟩ (.int .i64 15))) := (Only.refl _ w).trans (Only.set (S := (· = mb)) _ 0 _ rfl)
  have HR : Hid (Stepped mb limit none (w.setCell ⟨mb, 0, none⟩ (.int .i64 15))) := Stepped.broke hR (part_ints hP)
  clear hR hN hV hP n3 h ha hT hM h13
  go_enter Tryz.func23, Tryz.ntmps23
  go_wp2_with fail
  refine (HS.out w).mono ?_
  rintro e w' ⟨rfl, rfl⟩
  go_wp2_with fail
  refine (HM w').mono ?_
  rintro e w'' ⟨rfl, rfl⟩
  go_wp2
  first | go_end0 | refine bodyPost_ret (results_none rfl _ _ _) rfl ?_
  exact ⟨rfl, HR.out, HK.out⟩
set_option maxHeartbeats 4000000 in
set_option maxRecDepth 100000 in
theorem line3_cr (mb limit : Nat) (m : Mc) (c : UInt8) (w : World) (h : DM mb limit m w) (ha : m.at' = 3) (hT : isText c = false) (hM : isNameByte c = false) (h13 : c = 13) :
    Calls Tryz.prog 23 #[.pointer (some ⟨mb, 0, none⟩), .int .u8 c.toNat] w fun e w' => e = .returned (.tuple #[]) ∧ Stepped mb limit (some { m with at' := 4, thn := 5 }) w' ∧ Only (· = mb) w w' := by
  obtain ⟨nv, vv, last, fr, tot, hR, hN, hV, n1, n2, n3, hP⟩ := h.ex
  have c0 : w.cell? ⟨mb, 0, none⟩ = some (.int .i64 3) := by have q := hR.cell 0 _ rfl; rw [ha] at q; exact q
  have hlt := hR.lt (by simp [encM])
  have f0 := hR.fro 0
  have c1 : w.cell? ⟨mb, 1, none⟩ = some (.int .i64 (m.thn : Int)) := hR.cell 1 _ rfl
  have f1 := hR.fro 1
  have HS : Hid (∀ w, Calls Tryz.prog 37 #[.int .u8 c.toNat] w fun e w' => e = .returned (.bool false) ∧ w' = w) := fun w => by have q := seen_walk c w; rw [hT] at q; exact q
  have HM := name_walk c
  rw [hM] at HM
  have HM := HM
  have b13 := u8_eqb 13 13 rfl h13
  have HK : Hid (Only (· = mb) w ((w.setCell ⟨mb, 0, none⟩ (.int .i64 4)).setCell ⟨mb, 1, none⟩ (.int .i64 5))) := ((Only.refl _ w).trans (Only.set (S := (· = mb)) _ 0 _ rfl)).trans (Only.set (S := (· = mb)) _ 1 _ rfl)
  have HR : Hid (Stepped mb limit (some { m with at' := 4, thn := 5 }) ((w.setCell ⟨mb, 0, none⟩ (.int .i64 4)).setCell ⟨mb, 1, none⟩ (.int .i64 5))) := DM.mk' (m := m) (nv := nv) (vv := vv) (last := last) (fr := fr) (tot := tot) (((hR.set 0 (.int .i64 4) (by simp [encM])).set 1 (.int .i64 5) (by simp [encM])).cast rfl) rfl hN hV n1 n2 n3 (((Only.refl _ w).trans (Only.set (S := (· = mb)) _ 0 _ rfl)).trans (Only.set (S := (· = mb)) _ 1 _ rfl)) (part_keep hP rfl rfl rfl)
  clear hR hN hV hP n3 h ha hT hM h13
  go_enter Tryz.func23, Tryz.ntmps23
  go_wp2_with fail
  refine (HS.out w).mono ?_
  rintro e w' ⟨rfl, rfl⟩
  go_wp2_with fail
  refine (HM w').mono ?_
  rintro e w'' ⟨rfl, rfl⟩
  go_wp2
  first | go_end0 | refine bodyPost_ret (results_none rfl _ _ _) rfl ?_
  exact ⟨rfl, HR.out, HK.out⟩
set_option maxHeartbeats 4000000 in
set_option maxRecDepth 100000 in
theorem line3_text_true (mb limit : Nat) (m : Mc) (c : UInt8) (w : World) (h : DM mb limit m w) (ha : m.at' = 3) (hT : isText c = true) (hM : isNameByte c = true) (h13 : c ≠ 13) :
    Calls Tryz.prog 23 #[.pointer (some ⟨mb, 0, none⟩), .int .u8 c.toNat] w fun e w' => e = .returned (.tuple #[]) ∧ Stepped mb limit (some m) w' ∧ Only (· = mb) w w' := by
  obtain ⟨nv, vv, last, fr, tot, hR, hN, hV, n1, n2, n3, hP⟩ := h.ex
  have c0 : w.cell? ⟨mb, 0, none⟩ = some (.int .i64 3) := by have q := hR.cell 0 _ rfl; rw [ha] at q; exact q
  have hlt := hR.lt (by simp [encM])
  have f0 := hR.fro 0
  have HS : Hid (∀ w, Calls Tryz.prog 37 #[.int .u8 c.toNat] w fun e w' => e = .returned (.bool true) ∧ w' = w) := fun w => by have q := seen_walk c w; rw [hT] at q; exact q
  have HM := name_walk c
  rw [hM] at HM
  have HM := HM
  have b13 := u8_neb 13 13 rfl h13
  have HK : Hid (Only (· = mb) w w) := Only.refl _ w
  have HR : Hid (Stepped mb limit (some m) w) := DM.mk' (m := m) (nv := nv) (vv := vv) (last := last) (fr := fr) (tot := tot) (hR.cast rfl) rfl hN hV n1 n2 n3 (Only.refl _ w) (part_keep hP rfl rfl rfl)
  clear hR hN hV hP n3 h ha hT hM h13
  go_enter Tryz.func23, Tryz.ntmps23
  go_wp2_with fail
  refine (HS.out w).mono ?_
  rintro e w' ⟨rfl, rfl⟩
  go_wp2_with fail
  refine (HM w').mono ?_
  rintro e w'' ⟨rfl, rfl⟩
  go_wp2
  first | go_end0 | refine bodyPost_ret (results_none rfl _ _ _) rfl ?_
  exact ⟨rfl, HR.out, HK.out⟩
set_option maxHeartbeats 4000000 in
set_option maxRecDepth 100000 in
theorem line3_text_false (mb limit : Nat) (m : Mc) (c : UInt8) (w : World) (h : DM mb limit m w) (ha : m.at' = 3) (hT : isText c = true) (hM : isNameByte c = false) (h13 : c ≠ 13) :
    Calls Tryz.prog 23 #[.pointer (some ⟨mb, 0, none⟩), .int .u8 c.toNat] w fun e w' => e = .returned (.tuple #[]) ∧ Stepped mb limit (some m) w' ∧ Only (· = mb) w w' := by
  obtain ⟨nv, vv, last, fr, tot, hR, hN, hV, n1, n2, n3, hP⟩ := h.ex
  have c0 : w.cell? ⟨mb, 0, none⟩ = some (.int .i64 3) := by have q := hR.cell 0 _ rfl; rw [ha] at q; exact q
  have hlt := hR.lt (by simp [encM])
  have f0 := hR.fro 0
  have HS : Hid (∀ w, Calls Tryz.prog 37 #[.int .u8 c.toNat] w fun e w' => e = .returned (.bool true) ∧ w' = w) := fun w => by have q := seen_walk c w; rw [hT] at q; exact q
  have HM := name_walk c
  rw [hM] at HM
  have HM := HM
  have b13 := u8_neb 13 13 rfl h13
  have HK : Hid (Only (· = mb) w w) := Only.refl _ w
  have HR : Hid (Stepped mb limit (some m) w) := DM.mk' (m := m) (nv := nv) (vv := vv) (last := last) (fr := fr) (tot := tot) (hR.cast rfl) rfl hN hV n1 n2 n3 (Only.refl _ w) (part_keep hP rfl rfl rfl)
  clear hR hN hV hP n3 h ha hT hM h13
  go_enter Tryz.func23, Tryz.ntmps23
  go_wp2_with fail
  refine (HS.out w).mono ?_
  rintro e w' ⟨rfl, rfl⟩
  go_wp2_with fail
  refine (HM w').mono ?_
  rintro e w'' ⟨rfl, rfl⟩
  go_wp2
  first | go_end0 | refine bodyPost_ret (results_none rfl _ _ _) rfl ?_
  exact ⟨rfl, HR.out, HK.out⟩
set_option maxHeartbeats 4000000 in
set_option maxRecDepth 100000 in
theorem line3_no (mb limit : Nat) (m : Mc) (c : UInt8) (w : World) (h : DM mb limit m w) (ha : m.at' = 3) (hT : isText c = false) (hM : isNameByte c = false) (h13 : c ≠ 13) :
    Calls Tryz.prog 23 #[.pointer (some ⟨mb, 0, none⟩), .int .u8 c.toNat] w fun e w' => e = .returned (.tuple #[]) ∧ Stepped mb limit (none) w' ∧ Only (· = mb) w w' := by
  obtain ⟨nv, vv, last, fr, tot, hR, hN, hV, n1, n2, n3, hP⟩ := h.ex
  have c0 : w.cell? ⟨mb, 0, none⟩ = some (.int .i64 3) := by have q := hR.cell 0 _ rfl; rw [ha] at q; exact q
  have hlt := hR.lt (by simp [encM])
  have f0 := hR.fro 0
  have HS : Hid (∀ w, Calls Tryz.prog 37 #[.int .u8 c.toNat] w fun e w' => e = .returned (.bool false) ∧ w' = w) := fun w => by have q := seen_walk c w; rw [hT] at q; exact q
  have HM := name_walk c
  rw [hM] at HM
  have HM := HM
  have b13 := u8_neb 13 13 rfl h13
  have HK : Hid (Only (· = mb) w (w.setCell ⟨mb, 0, none⟩ (.int .i64 15))) := (Only.refl _ w).trans (Only.set (S := (· = mb)) _ 0 _ rfl)
  have HR : Hid (Stepped mb limit none (w.setCell ⟨mb, 0, none⟩ (.int .i64 15))) := Stepped.broke hR (part_ints hP)
  clear hR hN hV hP n3 h ha hT hM h13
  go_enter Tryz.func23, Tryz.ntmps23
  go_wp2_with fail
  refine (HS.out w).mono ?_
  rintro e w' ⟨rfl, rfl⟩
  go_wp2_with fail
  refine (HM w').mono ?_
  rintro e w'' ⟨rfl, rfl⟩
  go_wp2
  first | go_end0 | refine bodyPost_ret (results_none rfl _ _ _) rfl ?_
  exact ⟨rfl, HR.out, HK.out⟩
set_option maxHeartbeats 4000000 in
set_option maxRecDepth 100000 in
theorem line9_cr (mb limit : Nat) (m : Mc) (c : UInt8) (w : World) (h : DM mb limit m w) (ha : m.at' = 9) (hT : isText c = false) (hM : isNameByte c = false) (h13 : c = 13) :
    Calls Tryz.prog 23 #[.pointer (some ⟨mb, 0, none⟩), .int .u8 c.toNat] w fun e w' => e = .returned (.tuple #[]) ∧ Stepped mb limit (some { m with at' := 4, thn := 10 }) w' ∧ Only (· = mb) w w' := by
  obtain ⟨nv, vv, last, fr, tot, hR, hN, hV, n1, n2, n3, hP⟩ := h.ex
  have c0 : w.cell? ⟨mb, 0, none⟩ = some (.int .i64 9) := by have q := hR.cell 0 _ rfl; rw [ha] at q; exact q
  have hlt := hR.lt (by simp [encM])
  have f0 := hR.fro 0
  have c1 : w.cell? ⟨mb, 1, none⟩ = some (.int .i64 (m.thn : Int)) := hR.cell 1 _ rfl
  have f1 := hR.fro 1
  have HS : Hid (∀ w, Calls Tryz.prog 37 #[.int .u8 c.toNat] w fun e w' => e = .returned (.bool false) ∧ w' = w) := fun w => by have q := seen_walk c w; rw [hT] at q; exact q
  have HM := name_walk c
  rw [hM] at HM
  have HM := HM
  have b13 := u8_eqb 13 13 rfl h13
  have HK : Hid (Only (· = mb) w ((w.setCell ⟨mb, 0, none⟩ (.int .i64 4)).setCell ⟨mb, 1, none⟩ (.int .i64 10))) := ((Only.refl _ w).trans (Only.set (S := (· = mb)) _ 0 _ rfl)).trans (Only.set (S := (· = mb)) _ 1 _ rfl)
  have HR : Hid (Stepped mb limit (some { m with at' := 4, thn := 10 }) ((w.setCell ⟨mb, 0, none⟩ (.int .i64 4)).setCell ⟨mb, 1, none⟩ (.int .i64 10))) := DM.mk' (m := m) (nv := nv) (vv := vv) (last := last) (fr := fr) (tot := tot) (((hR.set 0 (.int .i64 4) (by simp [encM])).set 1 (.int .i64 10) (by simp [encM])).cast rfl) rfl hN hV n1 n2 n3 (((Only.refl _ w).trans (Only.set (S := (· = mb)) _ 0 _ rfl)).trans (Only.set (S := (· = mb)) _ 1 _ rfl)) (part_keep hP rfl rfl rfl)
  clear hR hN hV hP n3 h ha hT hM h13
  go_enter Tryz.func23, Tryz.ntmps23
  go_wp2_with fail
  refine (HS.out w).mono ?_
  rintro e w' ⟨rfl, rfl⟩
  go_wp2_with fail
  refine (HM w').mono ?_
  rintro e w'' ⟨rfl, rfl⟩
  go_wp2
  first | go_end0 | refine bodyPost_ret (results_none rfl _ _ _) rfl ?_
  exact ⟨rfl, HR.out, HK.out⟩
set_option maxHeartbeats 4000000 in
set_option maxRecDepth 100000 in
theorem line9_text_true (mb limit : Nat) (m : Mc) (c : UInt8) (w : World) (h : DM mb limit m w) (ha : m.at' = 9) (hT : isText c = true) (hM : isNameByte c = true) (h13 : c ≠ 13) :
    Calls Tryz.prog 23 #[.pointer (some ⟨mb, 0, none⟩), .int .u8 c.toNat] w fun e w' => e = .returned (.tuple #[]) ∧ Stepped mb limit (some m) w' ∧ Only (· = mb) w w' := by
  obtain ⟨nv, vv, last, fr, tot, hR, hN, hV, n1, n2, n3, hP⟩ := h.ex
  have c0 : w.cell? ⟨mb, 0, none⟩ = some (.int .i64 9) := by have q := hR.cell 0 _ rfl; rw [ha] at q; exact q
  have hlt := hR.lt (by simp [encM])
  have f0 := hR.fro 0
  have HS : Hid (∀ w, Calls Tryz.prog 37 #[.int .u8 c.toNat] w fun e w' => e = .returned (.bool true) ∧ w' = w) := fun w => by have q := seen_walk c w; rw [hT] at q; exact q
  have HM := name_walk c
  rw [hM] at HM
  have HM := HM
  have b13 := u8_neb 13 13 rfl h13
  have HK : Hid (Only (· = mb) w w) := Only.refl _ w
  have HR : Hid (Stepped mb limit (some m) w) := DM.mk' (m := m) (nv := nv) (vv := vv) (last := last) (fr := fr) (tot := tot) (hR.cast rfl) rfl hN hV n1 n2 n3 (Only.refl _ w) (part_keep hP rfl rfl rfl)
  clear hR hN hV hP n3 h ha hT hM h13
  go_enter Tryz.func23, Tryz.ntmps23
  go_wp2_with fail
  refine (HS.out w).mono ?_
  rintro e w' ⟨rfl, rfl⟩
  go_wp2_with fail
  refine (HM w').mono ?_
  rintro e w'' ⟨rfl, rfl⟩
  go_wp2
  first | go_end0 | refine bodyPost_ret (results_none rfl _ _ _) rfl ?_
  exact ⟨rfl, HR.out, HK.out⟩
set_option maxHeartbeats 4000000 in
set_option maxRecDepth 100000 in
theorem line9_text_false (mb limit : Nat) (m : Mc) (c : UInt8) (w : World) (h : DM mb limit m w) (ha : m.at' = 9) (hT : isText c = true) (hM : isNameByte c = false) (h13 : c ≠ 13) :
    Calls Tryz.prog 23 #[.pointer (some ⟨mb, 0, none⟩), .int .u8 c.toNat] w fun e w' => e = .returned (.tuple #[]) ∧ Stepped mb limit (some m) w' ∧ Only (· = mb) w w' := by
  obtain ⟨nv, vv, last, fr, tot, hR, hN, hV, n1, n2, n3, hP⟩ := h.ex
  have c0 : w.cell? ⟨mb, 0, none⟩ = some (.int .i64 9) := by have q := hR.cell 0 _ rfl; rw [ha] at q; exact q
  have hlt := hR.lt (by simp [encM])
  have f0 := hR.fro 0
  have HS : Hid (∀ w, Calls Tryz.prog 37 #[.int .u8 c.toNat] w fun e w' => e = .returned (.bool true) ∧ w' = w) := fun w => by have q := seen_walk c w; rw [hT] at q; exact q
  have HM := name_walk c
  rw [hM] at HM
  have HM := HM
  have b13 := u8_neb 13 13 rfl h13
  have HK : Hid (Only (· = mb) w w) := Only.refl _ w
  have HR : Hid (Stepped mb limit (some m) w) := DM.mk' (m := m) (nv := nv) (vv := vv) (last := last) (fr := fr) (tot := tot) (hR.cast rfl) rfl hN hV n1 n2 n3 (Only.refl _ w) (part_keep hP rfl rfl rfl)
  clear hR hN hV hP n3 h ha hT hM h13
  go_enter Tryz.func23, Tryz.ntmps23
  go_wp2_with fail
  refine (HS.out w).mono ?_
  rintro e w' ⟨rfl, rfl⟩
  go_wp2_with fail
  refine (HM w').mono ?_
  rintro e w'' ⟨rfl, rfl⟩
  go_wp2
  first | go_end0 | refine bodyPost_ret (results_none rfl _ _ _) rfl ?_
  exact ⟨rfl, HR.out, HK.out⟩
set_option maxHeartbeats 4000000 in
set_option maxRecDepth 100000 in
theorem line9_no (mb limit : Nat) (m : Mc) (c : UInt8) (w : World) (h : DM mb limit m w) (ha : m.at' = 9) (hT : isText c = false) (hM : isNameByte c = false) (h13 : c ≠ 13) :
    Calls Tryz.prog 23 #[.pointer (some ⟨mb, 0, none⟩), .int .u8 c.toNat] w fun e w' => e = .returned (.tuple #[]) ∧ Stepped mb limit (none) w' ∧ Only (· = mb) w w' := by
  obtain ⟨nv, vv, last, fr, tot, hR, hN, hV, n1, n2, n3, hP⟩ := h.ex
  have c0 : w.cell? ⟨mb, 0, none⟩ = some (.int .i64 9) := by have q := hR.cell 0 _ rfl; rw [ha] at q; exact q
  have hlt := hR.lt (by simp [encM])
  have f0 := hR.fro 0
  have HS : Hid (∀ w, Calls Tryz.prog 37 #[.int .u8 c.toNat] w fun e w' => e = .returned (.bool false) ∧ w' = w) := fun w => by have q := seen_walk c w; rw [hT] at q; exact q
  have HM := name_walk c
  rw [hM] at HM
  have HM := HM
  have b13 := u8_neb 13 13 rfl h13
  have HK : Hid (Only (· = mb) w (w.setCell ⟨mb, 0, none⟩ (.int .i64 15))) := (Only.refl _ w).trans (Only.set (S := (· = mb)) _ 0 _ rfl)
  have HR : Hid (Stepped mb limit none (w.setCell ⟨mb, 0, none⟩ (.int .i64 15))) := Stepped.broke hR (part_ints hP)
  clear hR hN hV hP n3 h ha hT hM h13
  go_enter Tryz.func23, Tryz.ntmps23
  go_wp2_with fail
  refine (HS.out w).mono ?_
  rintro e w' ⟨rfl, rfl⟩
  go_wp2_with fail
  refine (HM w').mono ?_
  rintro e w'' ⟨rfl, rfl⟩
  go_wp2
  first | go_end0 | refine bodyPost_ret (results_none rfl _ _ _) rfl ?_
  exact ⟨rfl, HR.out, HK.out⟩
set_option maxHeartbeats 4000000 in
set_option maxRecDepth 100000 in
theorem line7_cr_tail (mb limit : Nat) (m : Mc) (c : UInt8) (w : World) (h : DM mb limit m w) (ha : m.at' = 7) (hT : isText c = false) (hM : isNameByte c = false) (h13 : c = 13) (ht : m.tail = true) :
    Calls Tryz.prog 23 #[.pointer (some ⟨mb, 0, none⟩), .int .u8 c.toNat] w fun e w' => e = .returned (.tuple #[]) ∧ Stepped mb limit (some { m with at' := 4, thn := 5 }) w' ∧ Only (· = mb) w w' := by
  obtain ⟨nv, vv, last, fr, tot, hR, hN, hV, n1, n2, n3, hP⟩ := h.ex
  have c0 : w.cell? ⟨mb, 0, none⟩ = some (.int .i64 7) := by have q := hR.cell 0 _ rfl; rw [ha] at q; exact q
  have hlt := hR.lt (by simp [encM])
  have f0 := hR.fro 0
  have c10 : w.cell? ⟨mb, 10, none⟩ = some (.bool true) := by have q := hR.cell 10 _ rfl; rw [ht] at q; exact q
  have c1 : w.cell? ⟨mb, 1, none⟩ = some (.int .i64 (m.thn : Int)) := hR.cell 1 _ rfl
  have f1 := hR.fro 1
  have HS : Hid (∀ w, Calls Tryz.prog 37 #[.int .u8 c.toNat] w fun e w' => e = .returned (.bool false) ∧ w' = w) := fun w => by have q := seen_walk c w; rw [hT] at q; exact q
  have HM := name_walk c
  rw [hM] at HM
  have HM := HM
  have b13 := u8_eqb 13 13 rfl h13
  have HK : Hid (Only (· = mb) w ((w.setCell ⟨mb, 0, none⟩ (.int .i64 4)).setCell ⟨mb, 1, none⟩ (.int .i64 5))) := ((Only.refl _ w).trans (Only.set (S := (· = mb)) _ 0 _ rfl)).trans (Only.set (S := (· = mb)) _ 1 _ rfl)
  have HR : Hid (Stepped mb limit (some { m with at' := 4, thn := 5 }) ((w.setCell ⟨mb, 0, none⟩ (.int .i64 4)).setCell ⟨mb, 1, none⟩ (.int .i64 5))) := DM.mk' (m := m) (nv := nv) (vv := vv) (last := last) (fr := fr) (tot := tot) (((hR.set 0 (.int .i64 4) (by simp [encM])).set 1 (.int .i64 5) (by simp [encM])).cast rfl) rfl hN hV n1 n2 n3 (((Only.refl _ w).trans (Only.set (S := (· = mb)) _ 0 _ rfl)).trans (Only.set (S := (· = mb)) _ 1 _ rfl)) (part_keep hP rfl rfl rfl)
  clear hR hN hV hP n3 h ha hT hM h13
  go_enter Tryz.func23, Tryz.ntmps23
  go_wp2_with fail
  refine (HS.out w).mono ?_
  rintro e w' ⟨rfl, rfl⟩
  go_wp2_with fail
  refine (HM w').mono ?_
  rintro e w'' ⟨rfl, rfl⟩
  go_wp2
  first | go_end0 | refine bodyPost_ret (results_none rfl _ _ _) rfl ?_
  exact ⟨rfl, HR.out, HK.out⟩
end Go.Proofs.YtmodongnganbfaaGreatDoor.Rep
