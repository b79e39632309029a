/- Replies: the program's hasBody, check, understand. -/
import Derived.Test.YtmodongnganbfaaGreatDoorRpP
namespace Go.Proofs.YtmodongnganbfaaGreatDoor.Rep
open Go.RowKit Go.Proofs.YtmodongnganbfaaGreatDoor Go.Proofs.YtmodongnganbfaaGreatDoor.Sha Go.Proofs.YtmodongnganbfaaGreatDoor.Inf
theorem hasBody_walk (b o st : Nat) (w : World) (hc : w.cell? ⟨b, o, none⟩ = some (.int .i64 (st : Int))) :
    Calls Tryz.prog 26 #[.pointer (some ⟨b, o, none⟩)] w fun e w' => e = .returned (.bool (hasBody st)) ∧ w' = w := by
  by_cases h1 : st = 200
  · have t1 : ((st : Int) == 200) = true := by rw [beq_iff_eq]; omega
    have e : hasBody st = true := by rw [h1]; rfl
    rw [e]
    clear h1 e
    go_enter Tryz.func26, Tryz.ntmps26
    go_wp2
    go_ret
    exact ⟨rfl, rfl⟩
  · have t1 : ((st : Int) == 200) = false := by rw [beq_eq_false_iff_ne]; omega
    have n1 : (st == 200) = false := by rw [beq_eq_false_iff_ne]; exact h1
    by_cases h2 : st = 206
    · have t2 : ((st : Int) == 206) = true := by rw [beq_iff_eq]; omega
      have e : hasBody st = true := by rw [h2]; rfl
      rw [e]
      clear h1 e h2 n1
      go_enter Tryz.func26, Tryz.ntmps26
      go_wp2
      go_ret
      exact ⟨rfl, rfl⟩
    · have t2 : ((st : Int) == 206) = false := by rw [beq_eq_false_iff_ne]; omega
      have n2 : (st == 206) = false := by rw [beq_eq_false_iff_ne]; exact h2
      have e : hasBody st = false := by unfold hasBody; rw [n1, n2]; rfl
      rw [e]
      clear h1 e h2 n1 n2
      go_enter Tryz.func26, Tryz.ntmps26
      go_wp2
      go_ret
      exact ⟨rfl, rfl⟩
/-- How check ends. -/
def CheckE (b : Bool) (e : Ending) : Prop := match b with
  | true => e = .returned .nilIface
  | false => ∃ t x, e = .returned (.iface t x)
set_option maxRecDepth 100000 in
set_option maxHeartbeats 2000000 in
theorem check_both (hb limit : Nat) (h : Hd) (ad : Nat → Addr) (B : Nat) (w : World) (hR : Row w hb (encH h)) (hW : RepW ad B w) (h1 : h.hasLength = true) (h3 : h.chunked = true) :
    Calls Tryz.prog 61 #[.pointer (some ⟨hb, 0, none⟩), .int .i64 (limit : Int)] w fun e w' => CheckE (fitsH limit h) e ∧ w' = w := by
  have c0 : w.cell? ⟨hb, 0, none⟩ = some (.int .i64 (h.status : Int)) := hR.cell 0 _ rfl
  have c1 : w.cell? ⟨hb, 1, none⟩ = some (.bool h.hasLength) := hR.cell 1 _ rfl
  have c2 : w.cell? ⟨hb, 2, none⟩ = some (.int .i64 (h.length : Int)) := hR.cell 2 _ rfl
  have c3 : w.cell? ⟨hb, 3, none⟩ = some (.bool h.chunked) := hR.cell 3 _ rfl
  have c6 : w.cell? ⟨hb, 6, none⟩ = some (.bool h.hasRange) := hR.cell 6 _ rfl
  have c9 : w.cell? ⟨hb, 9, none⟩ = some (.int .i64 (h.total : Int)) := hR.cell 9 _ rfl
  rw [h1] at c1
  rw [h3] at c3
  have ge := hW.both
  have HF : Hid (fitsH limit h = false) := by show _ = _; simp [fitsH, h1, h3]
  clear c0 c2 c6 c9 h1 h3
  clear hR hW
  go_enter Tryz.func61, Tryz.ntmps61
  go_wp2
  go_ret
  rw [HF.out]
  exact ⟨⟨_, _, rfl⟩, rfl⟩
set_option maxRecDepth 100000 in
set_option maxHeartbeats 2000000 in
theorem check_tf_norange (hb limit : Nat) (h : Hd) (ad : Nat → Addr) (B : Nat) (w : World) (hR : Row w hb (encH h)) (hW : RepW ad B w) (h1 : h.hasLength = true) (h3 : h.chunked = false) (h0 : h.status = 206) (h6 : h.hasRange = false) :
    Calls Tryz.prog 61 #[.pointer (some ⟨hb, 0, none⟩), .int .i64 (limit : Int)] w fun e w' => CheckE (fitsH limit h) e ∧ w' = w := by
  have c0 : w.cell? ⟨hb, 0, none⟩ = some (.int .i64 (h.status : Int)) := hR.cell 0 _ rfl
  have c1 : w.cell? ⟨hb, 1, none⟩ = some (.bool h.hasLength) := hR.cell 1 _ rfl
  have c2 : w.cell? ⟨hb, 2, none⟩ = some (.int .i64 (h.length : Int)) := hR.cell 2 _ rfl
  have c3 : w.cell? ⟨hb, 3, none⟩ = some (.bool h.chunked) := hR.cell 3 _ rfl
  have c6 : w.cell? ⟨hb, 6, none⟩ = some (.bool h.hasRange) := hR.cell 6 _ rfl
  have c9 : w.cell? ⟨hb, 9, none⟩ = some (.int .i64 (h.total : Int)) := hR.cell 9 _ rfl
  rw [h1] at c1
  rw [h3] at c3
  have ge := hW.noRange
  have HF : Hid (fitsH limit h = false) := by show _ = _; simp [fitsH, h1, h3, h0, h6]
  rw [h0] at c0
  rw [h6] at c6
  clear c2 c9 h0 h6
  clear hR hW
  go_enter Tryz.func61, Tryz.ntmps61
  go_wp2
  go_ret
  rw [HF.out]
  exact ⟨⟨_, _, rfl⟩, rfl⟩
set_option maxRecDepth 100000 in
set_option maxHeartbeats 2000000 in
theorem check_tf_part_long (hb limit : Nat) (h : Hd) (ad : Nat → Addr) (B : Nat) (w : World) (hR : Row w hb (encH h)) (hW : RepW ad B w) (h1 : h.hasLength = true) (h3 : h.chunked = false) (h0 : h.status = 206) (h6 : h.hasRange = true) (h2 : limit < h.length) :
    Calls Tryz.prog 61 #[.pointer (some ⟨hb, 0, none⟩), .int .i64 (limit : Int)] w fun e w' => CheckE (fitsH limit h) e ∧ w' = w := by
  have c0 : w.cell? ⟨hb, 0, none⟩ = some (.int .i64 (h.status : Int)) := hR.cell 0 _ rfl
  have c1 : w.cell? ⟨hb, 1, none⟩ = some (.bool h.hasLength) := hR.cell 1 _ rfl
  have c2 : w.cell? ⟨hb, 2, none⟩ = some (.int .i64 (h.length : Int)) := hR.cell 2 _ rfl
  have c3 : w.cell? ⟨hb, 3, none⟩ = some (.bool h.chunked) := hR.cell 3 _ rfl
  have c6 : w.cell? ⟨hb, 6, none⟩ = some (.bool h.hasRange) := hR.cell 6 _ rfl
  have c9 : w.cell? ⟨hb, 9, none⟩ = some (.int .i64 (h.total : Int)) := hR.cell 9 _ rfl
  rw [h1] at c1
  rw [h3] at c3
  have HF : Hid (fitsH limit h = false) := by show _ = _; simp [fitsH, h1, h3, h0, h6, h2, hasBody]
  rw [h0] at c0
  rw [h6] at c6
  have HC : Calls Tryz.prog 26 #[.pointer (some ⟨hb, 0, none⟩)] w fun e w' => e = .returned (.bool true) ∧ w' = w := hasBody_walk hb 0 206 w c0
  have t2 : (limit : Int) < (h.length : Int) := by omega
  have ge := hW.limit
  clear h2 h0
  clear hR hW
  go_enter Tryz.func61, Tryz.ntmps61
  go_wp2_with fail
  refine HC.mono ?_
  rintro e w1 ⟨rfl, rfl⟩
  go_wp2
  go_ret
  rw [HF.out]
  exact ⟨⟨_, _, rfl⟩, rfl⟩
set_option maxRecDepth 100000 in
set_option maxHeartbeats 2000000 in
theorem check_tf_part_much (hb limit : Nat) (h : Hd) (ad : Nat → Addr) (B : Nat) (w : World) (hR : Row w hb (encH h)) (hW : RepW ad B w) (h1 : h.hasLength = true) (h3 : h.chunked = false) (h0 : h.status = 206) (h6 : h.hasRange = true) (h2 : ¬ limit < h.length) (h9 : limit < h.total) :
    Calls Tryz.prog 61 #[.pointer (some ⟨hb, 0, none⟩), .int .i64 (limit : Int)] w fun e w' => CheckE (fitsH limit h) e ∧ w' = w := by
  have c0 : w.cell? ⟨hb, 0, none⟩ = some (.int .i64 (h.status : Int)) := hR.cell 0 _ rfl
  have c1 : w.cell? ⟨hb, 1, none⟩ = some (.bool h.hasLength) := hR.cell 1 _ rfl
  have c2 : w.cell? ⟨hb, 2, none⟩ = some (.int .i64 (h.length : Int)) := hR.cell 2 _ rfl
  have c3 : w.cell? ⟨hb, 3, none⟩ = some (.bool h.chunked) := hR.cell 3 _ rfl
  have c6 : w.cell? ⟨hb, 6, none⟩ = some (.bool h.hasRange) := hR.cell 6 _ rfl
  have c9 : w.cell? ⟨hb, 9, none⟩ = some (.int .i64 (h.total : Int)) := hR.cell 9 _ rfl
  rw [h1] at c1
  rw [h3] at c3
  have HF : Hid (fitsH limit h = false) := by show _ = _; simp [fitsH, h1, h3, h0, h6, h9, hasBody]
  rw [h0] at c0
  rw [h6] at c6
  have HC : Calls Tryz.prog 26 #[.pointer (some ⟨hb, 0, none⟩)] w fun e w' => e = .returned (.bool true) ∧ w' = w := hasBody_walk hb 0 206 w c0
  have t2 : ¬ (limit : Int) < (h.length : Int) := by omega
  have t9 : (limit : Int) < (h.total : Int) := by omega
  have ge := hW.limit
  clear h2 h9 h0
  clear hR hW
  go_enter Tryz.func61, Tryz.ntmps61
  go_wp2_with fail
  refine HC.mono ?_
  rintro e w1 ⟨rfl, rfl⟩
  go_wp2
  go_ret
  rw [HF.out]
  exact ⟨⟨_, _, rfl⟩, rfl⟩
set_option maxRecDepth 100000 in
set_option maxHeartbeats 2000000 in
theorem check_tf_part_ok (hb limit : Nat) (h : Hd) (ad : Nat → Addr) (B : Nat) (w : World) (hR : Row w hb (encH h)) (_hW : RepW ad B w) (h1 : h.hasLength = true) (h3 : h.chunked = false) (h0 : h.status = 206) (h6 : h.hasRange = true) (h2 : ¬ limit < h.length) (h9 : ¬ limit < h.total) :
    Calls Tryz.prog 61 #[.pointer (some ⟨hb, 0, none⟩), .int .i64 (limit : Int)] w fun e w' => CheckE (fitsH limit h) e ∧ w' = w := by
  have c0 : w.cell? ⟨hb, 0, none⟩ = some (.int .i64 (h.status : Int)) := hR.cell 0 _ rfl
  have c1 : w.cell? ⟨hb, 1, none⟩ = some (.bool h.hasLength) := hR.cell 1 _ rfl
  have c2 : w.cell? ⟨hb, 2, none⟩ = some (.int .i64 (h.length : Int)) := hR.cell 2 _ rfl
  have c3 : w.cell? ⟨hb, 3, none⟩ = some (.bool h.chunked) := hR.cell 3 _ rfl
  have c6 : w.cell? ⟨hb, 6, none⟩ = some (.bool h.hasRange) := hR.cell 6 _ rfl
  have c9 : w.cell? ⟨hb, 9, none⟩ = some (.int .i64 (h.total : Int)) := hR.cell 9 _ rfl
  rw [h1] at c1
  rw [h3] at c3
  have HF : Hid (fitsH limit h = true) := by show _ = _; simp [fitsH, h1, h3, h0, h6, Nat.le_of_not_lt h2, Nat.le_of_not_lt h9, hasBody]
  rw [h0] at c0
  rw [h6] at c6
  have HC : Calls Tryz.prog 26 #[.pointer (some ⟨hb, 0, none⟩)] w fun e w' => e = .returned (.bool true) ∧ w' = w := hasBody_walk hb 0 206 w c0
  have t2 : ¬ (limit : Int) < (h.length : Int) := by omega
  have t9 : ¬ (limit : Int) < (h.total : Int) := by omega
  clear h2 h9 h0
  clear hR _hW
  go_enter Tryz.func61, Tryz.ntmps61
  go_wp2_with fail
  refine HC.mono ?_
  rintro e w1 ⟨rfl, rfl⟩
  go_wp2
  go_ret
  rw [HF.out]
  exact ⟨rfl, rfl⟩
set_option maxRecDepth 100000 in
set_option maxHeartbeats 2000000 in
theorem check_tf_whole_long (hb limit : Nat) (h : Hd) (ad : Nat → Addr) (B : Nat) (w : World) (hR : Row w hb (encH h)) (hW : RepW ad B w) (h1 : h.hasLength = true) (h3 : h.chunked = false) (h0 : h.status = 200) (h2 : limit < h.length) :
    Calls Tryz.prog 61 #[.pointer (some ⟨hb, 0, none⟩), .int .i64 (limit : Int)] w fun e w' => CheckE (fitsH limit h) e ∧ w' = w := by
  have c0 : w.cell? ⟨hb, 0, none⟩ = some (.int .i64 (h.status : Int)) := hR.cell 0 _ rfl
  have c1 : w.cell? ⟨hb, 1, none⟩ = some (.bool h.hasLength) := hR.cell 1 _ rfl
  have c2 : w.cell? ⟨hb, 2, none⟩ = some (.int .i64 (h.length : Int)) := hR.cell 2 _ rfl
  have c3 : w.cell? ⟨hb, 3, none⟩ = some (.bool h.chunked) := hR.cell 3 _ rfl
  have c6 : w.cell? ⟨hb, 6, none⟩ = some (.bool h.hasRange) := hR.cell 6 _ rfl
  have c9 : w.cell? ⟨hb, 9, none⟩ = some (.int .i64 (h.total : Int)) := hR.cell 9 _ rfl
  rw [h1] at c1
  rw [h3] at c3
  have HF : Hid (fitsH limit h = false) := by show _ = _; simp [fitsH, h1, h3, h0, h2, hasBody]
  rw [h0] at c0
  have HC : Calls Tryz.prog 26 #[.pointer (some ⟨hb, 0, none⟩)] w fun e w' => e = .returned (.bool true) ∧ w' = w := hasBody_walk hb 0 200 w c0
  have t2 : (limit : Int) < (h.length : Int) := by omega
  have ge := hW.limit
  clear h2 h0
  clear hR hW
  go_enter Tryz.func61, Tryz.ntmps61
  go_wp2_with fail
  refine HC.mono ?_
  rintro e w1 ⟨rfl, rfl⟩
  go_wp2
  go_ret
  rw [HF.out]
  exact ⟨⟨_, _, rfl⟩, rfl⟩
set_option maxRecDepth 100000 in
set_option maxHeartbeats 2000000 in
theorem check_tf_whole_much (hb limit : Nat) (h : Hd) (ad : Nat → Addr) (B : Nat) (w : World) (hR : Row w hb (encH h)) (hW : RepW ad B w) (h1 : h.hasLength = true) (h3 : h.chunked = false) (h0 : h.status = 200) (h2 : ¬ limit < h.length) (h9 : limit < h.total) :
    Calls Tryz.prog 61 #[.pointer (some ⟨hb, 0, none⟩), .int .i64 (limit : Int)] w fun e w' => CheckE (fitsH limit h) e ∧ w' = w := by
  have c0 : w.cell? ⟨hb, 0, none⟩ = some (.int .i64 (h.status : Int)) := hR.cell 0 _ rfl
  have c1 : w.cell? ⟨hb, 1, none⟩ = some (.bool h.hasLength) := hR.cell 1 _ rfl
  have c2 : w.cell? ⟨hb, 2, none⟩ = some (.int .i64 (h.length : Int)) := hR.cell 2 _ rfl
  have c3 : w.cell? ⟨hb, 3, none⟩ = some (.bool h.chunked) := hR.cell 3 _ rfl
  have c6 : w.cell? ⟨hb, 6, none⟩ = some (.bool h.hasRange) := hR.cell 6 _ rfl
  have c9 : w.cell? ⟨hb, 9, none⟩ = some (.int .i64 (h.total : Int)) := hR.cell 9 _ rfl
  rw [h1] at c1
  rw [h3] at c3
  have HF : Hid (fitsH limit h = false) := by show _ = _; simp [fitsH, h1, h3, h0, h9, hasBody]
  rw [h0] at c0
  have HC : Calls Tryz.prog 26 #[.pointer (some ⟨hb, 0, none⟩)] w fun e w' => e = .returned (.bool true) ∧ w' = w := hasBody_walk hb 0 200 w c0
  have t2 : ¬ (limit : Int) < (h.length : Int) := by omega
  have t9 : (limit : Int) < (h.total : Int) := by omega
  have ge := hW.limit
  clear h2 h9 h0
  clear hR hW
  go_enter Tryz.func61, Tryz.ntmps61
  go_wp2_with fail
  refine HC.mono ?_
  rintro e w1 ⟨rfl, rfl⟩
  go_wp2
  go_ret
  rw [HF.out]
  exact ⟨⟨_, _, rfl⟩, rfl⟩
set_option maxRecDepth 100000 in
set_option maxHeartbeats 2000000 in
theorem check_tf_whole_ok (hb limit : Nat) (h : Hd) (ad : Nat → Addr) (B : Nat) (w : World) (hR : Row w hb (encH h)) (_hW : RepW ad B w) (h1 : h.hasLength = true) (h3 : h.chunked = false) (h0 : h.status = 200) (h2 : ¬ limit < h.length) (h9 : ¬ limit < h.total) :
    Calls Tryz.prog 61 #[.pointer (some ⟨hb, 0, none⟩), .int .i64 (limit : Int)] w fun e w' => CheckE (fitsH limit h) e ∧ w' = w := by
  have c0 : w.cell? ⟨hb, 0, none⟩ = some (.int .i64 (h.status : Int)) := hR.cell 0 _ rfl
  have c1 : w.cell? ⟨hb, 1, none⟩ = some (.bool h.hasLength) := hR.cell 1 _ rfl
  have c2 : w.cell? ⟨hb, 2, none⟩ = some (.int .i64 (h.length : Int)) := hR.cell 2 _ rfl
  have c3 : w.cell? ⟨hb, 3, none⟩ = some (.bool h.chunked) := hR.cell 3 _ rfl
  have c6 : w.cell? ⟨hb, 6, none⟩ = some (.bool h.hasRange) := hR.cell 6 _ rfl
  have c9 : w.cell? ⟨hb, 9, none⟩ = some (.int .i64 (h.total : Int)) := hR.cell 9 _ rfl
  rw [h1] at c1
  rw [h3] at c3
  have HF : Hid (fitsH limit h = true) := by show _ = _; simp [fitsH, h1, h3, h0, Nat.le_of_not_lt h2, Nat.le_of_not_lt h9, hasBody]
  rw [h0] at c0
  have HC : Calls Tryz.prog 26 #[.pointer (some ⟨hb, 0, none⟩)] w fun e w' => e = .returned (.bool true) ∧ w' = w := hasBody_walk hb 0 200 w c0
  have t2 : ¬ (limit : Int) < (h.length : Int) := by omega
  have t9 : ¬ (limit : Int) < (h.total : Int) := by omega
  clear h2 h9 h0
  clear hR _hW
  go_enter Tryz.func61, Tryz.ntmps61
  go_wp2_with fail
  refine HC.mono ?_
  rintro e w1 ⟨rfl, rfl⟩
  go_wp2
  go_ret
  rw [HF.out]
  exact ⟨rfl, rfl⟩
set_option maxRecDepth 100000 in
set_option maxHeartbeats 2000000 in
theorem check_tf_other (hb limit : Nat) (h : Hd) (ad : Nat → Addr) (B : Nat) (w : World) (hR : Row w hb (encH h)) (_hW : RepW ad B w) (h1 : h.hasLength = true) (h3 : h.chunked = false) (h0 : h.status ≠ 206) (h0b : h.status ≠ 200) :
    Calls Tryz.prog 61 #[.pointer (some ⟨hb, 0, none⟩), .int .i64 (limit : Int)] w fun e w' => CheckE (fitsH limit h) e ∧ w' = w := by
  have c0 : w.cell? ⟨hb, 0, none⟩ = some (.int .i64 (h.status : Int)) := hR.cell 0 _ rfl
  have c1 : w.cell? ⟨hb, 1, none⟩ = some (.bool h.hasLength) := hR.cell 1 _ rfl
  have c2 : w.cell? ⟨hb, 2, none⟩ = some (.int .i64 (h.length : Int)) := hR.cell 2 _ rfl
  have c3 : w.cell? ⟨hb, 3, none⟩ = some (.bool h.chunked) := hR.cell 3 _ rfl
  have c6 : w.cell? ⟨hb, 6, none⟩ = some (.bool h.hasRange) := hR.cell 6 _ rfl
  have c9 : w.cell? ⟨hb, 9, none⟩ = some (.int .i64 (h.total : Int)) := hR.cell 9 _ rfl
  rw [h1] at c1
  rw [h3] at c3
  have HF : Hid (fitsH limit h = true) := by show _ = _; simp [fitsH, h1, h3, h0, h0b, hasBody]
  have t0 : ((h.status : Int) == 206) = false := by rw [beq_eq_false_iff_ne]; omega
  have hnb : hasBody h.status = false := by simp [hasBody, h0, h0b]
  have HC := hasBody_walk hb 0 h.status w c0
  rw [hnb] at HC
  clear hnb h0 h0b
  clear hR _hW
  go_enter Tryz.func61, Tryz.ntmps61
  go_wp2_with fail
  refine HC.mono ?_
  rintro e w1 ⟨rfl, rfl⟩
  go_wp2
  go_ret
  rw [HF.out]
  exact ⟨rfl, rfl⟩
set_option maxRecDepth 100000 in
set_option maxHeartbeats 2000000 in
theorem check_f_norange (hb limit : Nat) (h : Hd) (ad : Nat → Addr) (B : Nat) (w : World) (hR : Row w hb (encH h)) (hW : RepW ad B w) (h1 : h.hasLength = false) (h0 : h.status = 206) (h6 : h.hasRange = false) :
    Calls Tryz.prog 61 #[.pointer (some ⟨hb, 0, none⟩), .int .i64 (limit : Int)] w fun e w' => CheckE (fitsH limit h) e ∧ w' = w := by
  have c0 : w.cell? ⟨hb, 0, none⟩ = some (.int .i64 (h.status : Int)) := hR.cell 0 _ rfl
  have c1 : w.cell? ⟨hb, 1, none⟩ = some (.bool h.hasLength) := hR.cell 1 _ rfl
  have c2 : w.cell? ⟨hb, 2, none⟩ = some (.int .i64 (h.length : Int)) := hR.cell 2 _ rfl
  have c3 : w.cell? ⟨hb, 3, none⟩ = some (.bool h.chunked) := hR.cell 3 _ rfl
  have c6 : w.cell? ⟨hb, 6, none⟩ = some (.bool h.hasRange) := hR.cell 6 _ rfl
  have c9 : w.cell? ⟨hb, 9, none⟩ = some (.int .i64 (h.total : Int)) := hR.cell 9 _ rfl
  rw [h1] at c1
  have ge := hW.noRange
  have HF : Hid (fitsH limit h = false) := by show _ = _; simp [fitsH, h1, h0, h6]
  rw [h0] at c0
  rw [h6] at c6
  clear c2 c9 h0 h6
  clear hR hW
  go_enter Tryz.func61, Tryz.ntmps61
  go_wp2
  go_ret
  rw [HF.out]
  exact ⟨⟨_, _, rfl⟩, rfl⟩
set_option maxRecDepth 100000 in
set_option maxHeartbeats 2000000 in
theorem check_f_part_long (hb limit : Nat) (h : Hd) (ad : Nat → Addr) (B : Nat) (w : World) (hR : Row w hb (encH h)) (hW : RepW ad B w) (h1 : h.hasLength = false) (h0 : h.status = 206) (h6 : h.hasRange = true) (h2 : limit < h.length) :
    Calls Tryz.prog 61 #[.pointer (some ⟨hb, 0, none⟩), .int .i64 (limit : Int)] w fun e w' => CheckE (fitsH limit h) e ∧ w' = w := by
  have c0 : w.cell? ⟨hb, 0, none⟩ = some (.int .i64 (h.status : Int)) := hR.cell 0 _ rfl
  have c1 : w.cell? ⟨hb, 1, none⟩ = some (.bool h.hasLength) := hR.cell 1 _ rfl
  have c2 : w.cell? ⟨hb, 2, none⟩ = some (.int .i64 (h.length : Int)) := hR.cell 2 _ rfl
  have c3 : w.cell? ⟨hb, 3, none⟩ = some (.bool h.chunked) := hR.cell 3 _ rfl
  have c6 : w.cell? ⟨hb, 6, none⟩ = some (.bool h.hasRange) := hR.cell 6 _ rfl
  have c9 : w.cell? ⟨hb, 9, none⟩ = some (.int .i64 (h.total : Int)) := hR.cell 9 _ rfl
  rw [h1] at c1
  have HF : Hid (fitsH limit h = false) := by show _ = _; simp [fitsH, h1, h0, h6, h2, hasBody]
  rw [h0] at c0
  rw [h6] at c6
  have HC : Calls Tryz.prog 26 #[.pointer (some ⟨hb, 0, none⟩)] w fun e w' => e = .returned (.bool true) ∧ w' = w := hasBody_walk hb 0 206 w c0
  have t2 : (limit : Int) < (h.length : Int) := by omega
  have ge := hW.limit
  clear h2 h0
  clear hR hW
  go_enter Tryz.func61, Tryz.ntmps61
  go_wp2_with fail
  refine HC.mono ?_
  rintro e w1 ⟨rfl, rfl⟩
  go_wp2
  go_ret
  rw [HF.out]
  exact ⟨⟨_, _, rfl⟩, rfl⟩
set_option maxRecDepth 100000 in
set_option maxHeartbeats 2000000 in
theorem check_f_part_much (hb limit : Nat) (h : Hd) (ad : Nat → Addr) (B : Nat) (w : World) (hR : Row w hb (encH h)) (hW : RepW ad B w) (h1 : h.hasLength = false) (h0 : h.status = 206) (h6 : h.hasRange = true) (h2 : ¬ limit < h.length) (h9 : limit < h.total) :
    Calls Tryz.prog 61 #[.pointer (some ⟨hb, 0, none⟩), .int .i64 (limit : Int)] w fun e w' => CheckE (fitsH limit h) e ∧ w' = w := by
  have c0 : w.cell? ⟨hb, 0, none⟩ = some (.int .i64 (h.status : Int)) := hR.cell 0 _ rfl
  have c1 : w.cell? ⟨hb, 1, none⟩ = some (.bool h.hasLength) := hR.cell 1 _ rfl
  have c2 : w.cell? ⟨hb, 2, none⟩ = some (.int .i64 (h.length : Int)) := hR.cell 2 _ rfl
  have c3 : w.cell? ⟨hb, 3, none⟩ = some (.bool h.chunked) := hR.cell 3 _ rfl
  have c6 : w.cell? ⟨hb, 6, none⟩ = some (.bool h.hasRange) := hR.cell 6 _ rfl
  have c9 : w.cell? ⟨hb, 9, none⟩ = some (.int .i64 (h.total : Int)) := hR.cell 9 _ rfl
  rw [h1] at c1
  have HF : Hid (fitsH limit h = false) := by show _ = _; simp [fitsH, h1, h0, h6, h9, hasBody]
  rw [h0] at c0
  rw [h6] at c6
  have HC : Calls Tryz.prog 26 #[.pointer (some ⟨hb, 0, none⟩)] w fun e w' => e = .returned (.bool true) ∧ w' = w := hasBody_walk hb 0 206 w c0
  have t2 : ¬ (limit : Int) < (h.length : Int) := by omega
  have t9 : (limit : Int) < (h.total : Int) := by omega
  have ge := hW.limit
  clear h2 h9 h0
  clear hR hW
  go_enter Tryz.func61, Tryz.ntmps61
  go_wp2_with fail
  refine HC.mono ?_
  rintro e w1 ⟨rfl, rfl⟩
  go_wp2
  go_ret
  rw [HF.out]
  exact ⟨⟨_, _, rfl⟩, rfl⟩
set_option maxRecDepth 100000 in
set_option maxHeartbeats 2000000 in
theorem check_f_part_ok (hb limit : Nat) (h : Hd) (ad : Nat → Addr) (B : Nat) (w : World) (hR : Row w hb (encH h)) (_hW : RepW ad B w) (h1 : h.hasLength = false) (h0 : h.status = 206) (h6 : h.hasRange = true) (h2 : ¬ limit < h.length) (h9 : ¬ limit < h.total) :
    Calls Tryz.prog 61 #[.pointer (some ⟨hb, 0, none⟩), .int .i64 (limit : Int)] w fun e w' => CheckE (fitsH limit h) e ∧ w' = w := by
  have c0 : w.cell? ⟨hb, 0, none⟩ = some (.int .i64 (h.status : Int)) := hR.cell 0 _ rfl
  have c1 : w.cell? ⟨hb, 1, none⟩ = some (.bool h.hasLength) := hR.cell 1 _ rfl
  have c2 : w.cell? ⟨hb, 2, none⟩ = some (.int .i64 (h.length : Int)) := hR.cell 2 _ rfl
  have c3 : w.cell? ⟨hb, 3, none⟩ = some (.bool h.chunked) := hR.cell 3 _ rfl
  have c6 : w.cell? ⟨hb, 6, none⟩ = some (.bool h.hasRange) := hR.cell 6 _ rfl
  have c9 : w.cell? ⟨hb, 9, none⟩ = some (.int .i64 (h.total : Int)) := hR.cell 9 _ rfl
  rw [h1] at c1
  have HF : Hid (fitsH limit h = true) := by show _ = _; simp [fitsH, h1, h0, h6, Nat.le_of_not_lt h2, Nat.le_of_not_lt h9, hasBody]
  rw [h0] at c0
  rw [h6] at c6
  have HC : Calls Tryz.prog 26 #[.pointer (some ⟨hb, 0, none⟩)] w fun e w' => e = .returned (.bool true) ∧ w' = w := hasBody_walk hb 0 206 w c0
  have t2 : ¬ (limit : Int) < (h.length : Int) := by omega
  have t9 : ¬ (limit : Int) < (h.total : Int) := by omega
  clear h2 h9 h0
  clear hR _hW
  go_enter Tryz.func61, Tryz.ntmps61
  go_wp2_with fail
  refine HC.mono ?_
  rintro e w1 ⟨rfl, rfl⟩
  go_wp2
  go_ret
  rw [HF.out]
  exact ⟨rfl, rfl⟩
set_option maxRecDepth 100000 in
set_option maxHeartbeats 2000000 in
theorem check_f_whole_long (hb limit : Nat) (h : Hd) (ad : Nat → Addr) (B : Nat) (w : World) (hR : Row w hb (encH h)) (hW : RepW ad B w) (h1 : h.hasLength = false) (h0 : h.status = 200) (h2 : limit < h.length) :
    Calls Tryz.prog 61 #[.pointer (some ⟨hb, 0, none⟩), .int .i64 (limit : Int)] w fun e w' => CheckE (fitsH limit h) e ∧ w' = w := by
  have c0 : w.cell? ⟨hb, 0, none⟩ = some (.int .i64 (h.status : Int)) := hR.cell 0 _ rfl
  have c1 : w.cell? ⟨hb, 1, none⟩ = some (.bool h.hasLength) := hR.cell 1 _ rfl
  have c2 : w.cell? ⟨hb, 2, none⟩ = some (.int .i64 (h.length : Int)) := hR.cell 2 _ rfl
  have c3 : w.cell? ⟨hb, 3, none⟩ = some (.bool h.chunked) := hR.cell 3 _ rfl
  have c6 : w.cell? ⟨hb, 6, none⟩ = some (.bool h.hasRange) := hR.cell 6 _ rfl
  have c9 : w.cell? ⟨hb, 9, none⟩ = some (.int .i64 (h.total : Int)) := hR.cell 9 _ rfl
  rw [h1] at c1
  have HF : Hid (fitsH limit h = false) := by show _ = _; simp [fitsH, h1, h0, h2, hasBody]
  rw [h0] at c0
  have HC : Calls Tryz.prog 26 #[.pointer (some ⟨hb, 0, none⟩)] w fun e w' => e = .returned (.bool true) ∧ w' = w := hasBody_walk hb 0 200 w c0
  have t2 : (limit : Int) < (h.length : Int) := by omega
  have ge := hW.limit
  clear h2 h0
  clear hR hW
  go_enter Tryz.func61, Tryz.ntmps61
  go_wp2_with fail
  refine HC.mono ?_
  rintro e w1 ⟨rfl, rfl⟩
  go_wp2
  go_ret
  rw [HF.out]
  exact ⟨⟨_, _, rfl⟩, rfl⟩
set_option maxRecDepth 100000 in
set_option maxHeartbeats 2000000 in
theorem check_f_whole_much (hb limit : Nat) (h : Hd) (ad : Nat → Addr) (B : Nat) (w : World) (hR : Row w hb (encH h)) (hW : RepW ad B w) (h1 : h.hasLength = false) (h0 : h.status = 200) (h2 : ¬ limit < h.length) (h9 : limit < h.total) :
    Calls Tryz.prog 61 #[.pointer (some ⟨hb, 0, none⟩), .int .i64 (limit : Int)] w fun e w' => CheckE (fitsH limit h) e ∧ w' = w := by
  have c0 : w.cell? ⟨hb, 0, none⟩ = some (.int .i64 (h.status : Int)) := hR.cell 0 _ rfl
  have c1 : w.cell? ⟨hb, 1, none⟩ = some (.bool h.hasLength) := hR.cell 1 _ rfl
  have c2 : w.cell? ⟨hb, 2, none⟩ = some (.int .i64 (h.length : Int)) := hR.cell 2 _ rfl
  have c3 : w.cell? ⟨hb, 3, none⟩ = some (.bool h.chunked) := hR.cell 3 _ rfl
  have c6 : w.cell? ⟨hb, 6, none⟩ = some (.bool h.hasRange) := hR.cell 6 _ rfl
  have c9 : w.cell? ⟨hb, 9, none⟩ = some (.int .i64 (h.total : Int)) := hR.cell 9 _ rfl
  rw [h1] at c1
  have HF : Hid (fitsH limit h = false) := by show _ = _; simp [fitsH, h1, h0, h9, hasBody]
  rw [h0] at c0
  have HC : Calls Tryz.prog 26 #[.pointer (some ⟨hb, 0, none⟩)] w fun e w' => e = .returned (.bool true) ∧ w' = w := hasBody_walk hb 0 200 w c0
  have t2 : ¬ (limit : Int) < (h.length : Int) := by omega
  have t9 : (limit : Int) < (h.total : Int) := by omega
  have ge := hW.limit
  clear h2 h9 h0
  clear hR hW
  go_enter Tryz.func61, Tryz.ntmps61
  go_wp2_with fail
  refine HC.mono ?_
  rintro e w1 ⟨rfl, rfl⟩
  go_wp2
  go_ret
  rw [HF.out]
  exact ⟨⟨_, _, rfl⟩, rfl⟩
set_option maxRecDepth 100000 in
set_option maxHeartbeats 2000000 in
theorem check_f_whole_ok (hb limit : Nat) (h : Hd) (ad : Nat → Addr) (B : Nat) (w : World) (hR : Row w hb (encH h)) (_hW : RepW ad B w) (h1 : h.hasLength = false) (h0 : h.status = 200) (h2 : ¬ limit < h.length) (h9 : ¬ limit < h.total) :
    Calls Tryz.prog 61 #[.pointer (some ⟨hb, 0, none⟩), .int .i64 (limit : Int)] w fun e w' => CheckE (fitsH limit h) e ∧ w' = w := by
  have c0 : w.cell? ⟨hb, 0, none⟩ = some (.int .i64 (h.status : Int)) := hR.cell 0 _ rfl
  have c1 : w.cell? ⟨hb, 1, none⟩ = some (.bool h.hasLength) := hR.cell 1 _ rfl
  have c2 : w.cell? ⟨hb, 2, none⟩ = some (.int .i64 (h.length : Int)) := hR.cell 2 _ rfl
  have c3 : w.cell? ⟨hb, 3, none⟩ = some (.bool h.chunked) := hR.cell 3 _ rfl
  have c6 : w.cell? ⟨hb, 6, none⟩ = some (.bool h.hasRange) := hR.cell 6 _ rfl
  have c9 : w.cell? ⟨hb, 9, none⟩ = some (.int .i64 (h.total : Int)) := hR.cell 9 _ rfl
  rw [h1] at c1
  have HF : Hid (fitsH limit h = true) := by show _ = _; simp [fitsH, h1, h0, Nat.le_of_not_lt h2, Nat.le_of_not_lt h9, hasBody]
  rw [h0] at c0
  have HC : Calls Tryz.prog 26 #[.pointer (some ⟨hb, 0, none⟩)] w fun e w' => e = .returned (.bool true) ∧ w' = w := hasBody_walk hb 0 200 w c0
  have t2 : ¬ (limit : Int) < (h.length : Int) := by omega
  have t9 : ¬ (limit : Int) < (h.total : Int) := by omega
  clear h2 h9 h0
  clear hR _hW
  go_enter Tryz.func61, Tryz.ntmps61
  go_wp2_with fail
  refine HC.mono ?_
  rintro e w1 ⟨rfl, rfl⟩
  go_wp2
  go_ret
  rw [HF.out]
  exact ⟨rfl, rfl⟩
set_option maxRecDepth 100000 in
set_option maxHeartbeats 2000000 in
theorem check_f_other (hb limit : Nat) (h : Hd) (ad : Nat → Addr) (B : Nat) (w : World) (hR : Row w hb (encH h)) (_hW : RepW ad B w) (h1 : h.hasLength = false) (h0 : h.status ≠ 206) (h0b : h.status ≠ 200) :
    Calls Tryz.prog 61 #[.pointer (some ⟨hb, 0, none⟩), .int .i64 (limit : Int)] w fun e w' => CheckE (fitsH limit h) e ∧ w' = w := by
  have c0 : w.cell? ⟨hb, 0, none⟩ = some (.int .i64 (h.status : Int)) := hR.cell 0 _ rfl
  have c1 : w.cell? ⟨hb, 1, none⟩ = some (.bool h.hasLength) := hR.cell 1 _ rfl
  have c2 : w.cell? ⟨hb, 2, none⟩ = some (.int .i64 (h.length : Int)) := hR.cell 2 _ rfl
  have c3 : w.cell? ⟨hb, 3, none⟩ = some (.bool h.chunked) := hR.cell 3 _ rfl
  have c6 : w.cell? ⟨hb, 6, none⟩ = some (.bool h.hasRange) := hR.cell 6 _ rfl
  have c9 : w.cell? ⟨hb, 9, none⟩ = some (.int .i64 (h.total : Int)) := hR.cell 9 _ rfl
  rw [h1] at c1
  have HF : Hid (fitsH limit h = true) := by show _ = _; simp [fitsH, h1, h0, h0b, hasBody]
  have t0 : ((h.status : Int) == 206) = false := by rw [beq_eq_false_iff_ne]; omega
  have hnb : hasBody h.status = false := by simp [hasBody, h0, h0b]
  have HC := hasBody_walk hb 0 h.status w c0
  rw [hnb] at HC
  clear hnb h0 h0b
  clear hR _hW
  go_enter Tryz.func61, Tryz.ntmps61
  go_wp2_with fail
  refine HC.mono ?_
  rintro e w1 ⟨rfl, rfl⟩
  go_wp2
  go_ret
  rw [HF.out]
  exact ⟨rfl, rfl⟩
theorem check_walk (hb limit : Nat) (h : Hd) (ad : Nat → Addr) (B : Nat) (w : World) (hR : Row w hb (encH h)) (hW : RepW ad B w) :
    Calls Tryz.prog 61 #[.pointer (some ⟨hb, 0, none⟩), .int .i64 (limit : Int)] w fun e w' => CheckE (fitsH limit h) e ∧ w' = w := by
  cases h1 : h.hasLength with
  | true =>
    cases h3 : h.chunked with
    | true => exact check_both hb limit h ad B w hR hW h1 h3
    | false =>
      by_cases h0 : h.status = 206
      · cases h6 : h.hasRange with
        | false => exact check_tf_norange hb limit h ad B w hR hW h1 h3 h0 h6
        | true =>
          by_cases h2 : limit < h.length
          · exact check_tf_part_long hb limit h ad B w hR hW h1 h3 h0 h6 h2
          · by_cases h9 : limit < h.total
            · exact check_tf_part_much hb limit h ad B w hR hW h1 h3 h0 h6 h2 h9
            · exact check_tf_part_ok hb limit h ad B w hR hW h1 h3 h0 h6 h2 h9
      · by_cases h0b : h.status = 200
        · by_cases h2 : limit < h.length
          · exact check_tf_whole_long hb limit h ad B w hR hW h1 h3 h0b h2
          · by_cases h9 : limit < h.total
            · exact check_tf_whole_much hb limit h ad B w hR hW h1 h3 h0b h2 h9
            · exact check_tf_whole_ok hb limit h ad B w hR hW h1 h3 h0b h2 h9
        · exact check_tf_other hb limit h ad B w hR hW h1 h3 h0 h0b
  | false =>
    by_cases h0 : h.status = 206
    · cases h6 : h.hasRange with
      | false => exact check_f_norange hb limit h ad B w hR hW h1 h0 h6
      | true =>
        by_cases h2 : limit < h.length
        · exact check_f_part_long hb limit h ad B w hR hW h1 h0 h6 h2
        · by_cases h9 : limit < h.total
          · exact check_f_part_much hb limit h ad B w hR hW h1 h0 h6 h2 h9
          · exact check_f_part_ok hb limit h ad B w hR hW h1 h0 h6 h2 h9
    · by_cases h0b : h.status = 200
      · by_cases h2 : limit < h.length
        · exact check_f_whole_long hb limit h ad B w hR hW h1 h0b h2
        · by_cases h9 : limit < h.total
          · exact check_f_whole_much hb limit h ad B w hR hW h1 h0b h2 h9
          · exact check_f_whole_ok hb limit h ad B w hR hW h1 h0b h2 h9
      · exact check_f_other hb limit h ad B w hR hW h1 h0 h0b
end Go.Proofs.YtmodongnganbfaaGreatDoor.Rep
