/- Replies: the document's told. -/
import Derived.Test.YtmodongnganbfaaGreatDoorRdBaseToRdD
namespace Go.Proofs.YtmodongnganbfaaGreatDoor.Rep
open Go.RowKit Go.Proofs.YtmodongnganbfaaGreatDoor Go.Proofs.YtmodongnganbfaaGreatDoor.Sha
/-- What is told. -/
structure Rp where
  cls : Nat
  status : Nat
  tag : Bytes
  body : Bytes
  fr : Nat
  tot : Nat
  ticks : Int
def encR (r : Rp) : Value := .agg #[.int .i64 (r.cls : Int), .int .i64 (r.status : Int), .string ⟨r.tag.toArray⟩, .string ⟨r.body.toArray⟩, .int .i64 (r.fr : Int), .int .i64 (r.tot : Int), .int .i64 r.ticks]
def frOf (m : Mc) : Nat := if m.status = 206 then (m.span.map (·.first)).getD 0 else 0
def totOf (m : Mc) : Nat := if m.status = 206 then (m.span.map (·.total)).getD 0 else 0
def toldP (r : Res) : Rp := match r.mc with
  | none => ⟨6, 0, [], [], 0, 0, r.ticks⟩
  | some m => if m.at' = 14 then ⟨classOf m.status, m.status, m.tag, m.body, frOf m, totOf m, r.ticks⟩ else if m.headed then ⟨4, m.status, m.tag, m.body, frOf m, totOf m, r.ticks⟩ else ⟨4, 0, [], [], 0, 0, r.ticks⟩
theorem part_tells {m : Mc} {last fr tot : Value} (h : PartOf m last fr tot) (hh : m.headed = true) : fr = .int .i64 (frOf m : Int) ∧ tot = .int .i64 (totOf m : Int) := by
  unfold frOf totOf
  by_cases h6 : m.status = 206
  · obtain ⟨s, hs, _, rfl, rfl, _, _⟩ := h.2.1 ⟨hh, h6⟩
    rw [if_pos h6, if_pos h6, hs]
    exact ⟨rfl, rfl⟩
  · obtain ⟨rfl, rfl⟩ := h.2.2 (fun e => h6 e.2)
    rw [if_neg h6, if_neg h6]
    exact ⟨rfl, rfl⟩
set_option maxHeartbeats 2000000 in
set_option maxRecDepth 100000 in
theorem told_none (mb limit : Nat) (w : World) (ticks : Int) (h : Stepped mb limit none w) :
    Calls Tryz.prog 11 #[.pointer (some ⟨mb, 0, none⟩), .int .i64 ticks] w fun e w' => e = .returned (encR (toldP ⟨none, ticks⟩)) ∧ Below w.heap.size w w' := by
  obtain ⟨m, nv, vv, last, fr, tot, hR, h15, ⟨xf, rfl⟩, ⟨xt, rfl⟩⟩ := h
  have c0 : w.cell? ⟨mb, 0, none⟩ = some (.int .i64 15) := by have q := hR.cell 0 _ rfl; rw [h15] at q; exact q
  have c14 : w.cell? ⟨mb, 14, none⟩ = some (.int .i64 0) := hR.cell 14 _ rfl
  have c15 : w.cell? ⟨mb, 15, none⟩ = some (.int .i64 (m.status : Int)) := hR.cell 15 _ rfl
  have c16 : w.cell? ⟨mb, 16, none⟩ = some (.string ⟨m.tag.toArray⟩) := hR.cell 16 _ rfl
  have c17 : w.cell? ⟨mb, 17, none⟩ = some (.string ⟨m.body.toArray⟩) := hR.cell 17 _ rfl
  have c18 : w.cell? ⟨mb, 18, none⟩ = some (.int .i64 xf) := hR.cell 18 _ rfl
  have c19 : w.cell? ⟨mb, 19, none⟩ = some (.int .i64 xt) := hR.cell 19 _ rfl
  have c20 : w.cell? ⟨mb, 20, none⟩ = some (.int .i64 0) := hR.cell 20 _ rfl
  have hlt := hR.lt (by simp [encM])
  clear hR h15
  go_enter Tryz.func11, Tryz.ntmps11
  go_wp2
  exact bodyPost_ret (v := .agg #[.int .i64 6, .int .i64 0, .string ⟨#[]⟩, .string ⟨#[]⟩, .int .i64 0, .int .i64 0, .int .i64 ticks]) (by simp [results, Tryz.results11, go_sem]) rfl ⟨rfl, (((Below.refl _ _).alloc (Nat.le_refl _) _).alloc (by simp) _)⟩
set_option maxHeartbeats 4000000 in
set_option maxRecDepth 100000 in
theorem told_some (mb limit : Nat) (m : Mc) (w : World) (ticks : Int) (h : DM mb limit m w) (h14 : m.at' ≤ 14) (hst : m.status ≤ 1000) (hh : m.at' = 14 → m.headed = true) :
    Calls Tryz.prog 11 #[.pointer (some ⟨mb, 0, none⟩), .int .i64 ticks] w fun e w' => e = .returned (encR (toldP ⟨some m, ticks⟩)) ∧ Below w.heap.size w w' := by
  obtain ⟨nv, vv, last, fr, tot, hR, hN, hV, n1, n2, n3, hP⟩ := h.ex
  obtain ⟨⟨xf, ef⟩, ⟨xt, et⟩⟩ := part_ints hP
  subst ef
  subst et
  have c0 : w.cell? ⟨mb, 0, none⟩ = some (.int .i64 (m.at' : Int)) := hR.cell 0 _ rfl
  have c9 : w.cell? ⟨mb, 9, none⟩ = some (.bool m.headed) := hR.cell 9 _ rfl
  have c14 : w.cell? ⟨mb, 14, none⟩ = some (.int .i64 0) := hR.cell 14 _ rfl
  have c15 : w.cell? ⟨mb, 15, none⟩ = some (.int .i64 (m.status : Int)) := hR.cell 15 _ rfl
  have c16 : w.cell? ⟨mb, 16, none⟩ = some (.string ⟨m.tag.toArray⟩) := hR.cell 16 _ rfl
  have c17 : w.cell? ⟨mb, 17, none⟩ = some (.string ⟨m.body.toArray⟩) := hR.cell 17 _ rfl
  have c18 : w.cell? ⟨mb, 18, none⟩ = some (.int .i64 xf) := hR.cell 18 _ rfl
  have c19 : w.cell? ⟨mb, 19, none⟩ = some (.int .i64 xt) := hR.cell 19 _ rfl
  have c20 : w.cell? ⟨mb, 20, none⟩ = some (.int .i64 0) := hR.cell 20 _ rfl
  have hlt := hR.lt (by simp [encM])
  have t15 : ((m.at' : Int) == 15) = false := by rw [beq_eq_false_iff_ne]; omega
  by_cases e14 : m.at' = 14
  · have t14 : ((m.at' : Int) == 14) = true := by rw [beq_iff_eq]; omega
    obtain ⟨p1, p2⟩ := part_tells hP (hh e14)
    have HV : Hid (toldP ⟨some m, ticks⟩ = ⟨classOf m.status, m.status, m.tag, m.body, frOf m, totOf m, ticks⟩) := by
      show _ = _
      unfold toldP
      simp only []
      rw [if_pos e14]
    have HC := class_walk m.status
    clear hR hN hV hP n3 h e14 hh
    go_enter Tryz.func11, Tryz.ntmps11
    go_wp2_with fail
    refine (HC _ (by omega)).mono ?_
    rintro e w' ⟨rfl, rfl⟩
    go_wp2
    exact bodyPost_ret (v := .agg #[.int .i64 (classOf m.status : Int), .int .i64 (m.status : Int), .string ⟨m.tag.toArray⟩, .string ⟨m.body.toArray⟩, .int .i64 (frOf m : Int), .int .i64 (totOf m : Int), .int .i64 ticks]) (by simp [results, Tryz.results11, go_sem]) rfl ⟨by rw [HV.out]; rfl, (((Below.refl _ _).alloc (Nat.le_refl _) _).alloc (by simp) _)⟩
  · have t14 : ((m.at' : Int) == 14) = false := by rw [beq_eq_false_iff_ne]; omega
    cases hd : m.headed with
    | true =>
      obtain ⟨p1, p2⟩ := part_tells hP hd
      rw [hd] at c9
      have HV : Hid (toldP ⟨some m, ticks⟩ = ⟨4, m.status, m.tag, m.body, frOf m, totOf m, ticks⟩) := by
        show _ = _
        unfold toldP
        simp only []
        rw [if_neg e14, if_pos hd]
      clear hR hN hV hP n3 h e14 hh hd
      go_enter Tryz.func11, Tryz.ntmps11
      go_wp2
      exact bodyPost_ret (v := .agg #[.int .i64 4, .int .i64 (m.status : Int), .string ⟨m.tag.toArray⟩, .string ⟨m.body.toArray⟩, .int .i64 (frOf m : Int), .int .i64 (totOf m : Int), .int .i64 ticks]) (by simp [results, Tryz.results11, go_sem]) rfl ⟨by rw [HV.out]; rfl, (((Below.refl _ _).alloc (Nat.le_refl _) _).alloc (by simp) _)⟩
    | false =>
      rw [hd] at c9
      have HV : Hid (toldP ⟨some m, ticks⟩ = ⟨4, 0, [], [], 0, 0, ticks⟩) := by
        show _ = _
        unfold toldP
        simp only []
        rw [if_neg e14, if_neg (by rw [hd]; decide)]
      clear hR hN hV hP n3 h e14 hh hd
      go_enter Tryz.func11, Tryz.ntmps11
      go_wp2
      exact bodyPost_ret (v := .agg #[.int .i64 4, .int .i64 0, .string ⟨#[]⟩, .string ⟨#[]⟩, .int .i64 0, .int .i64 0, .int .i64 ticks]) (by simp [results, Tryz.results11, go_sem]) rfl ⟨by rw [HV.out]; rfl, (((Below.refl _ _).alloc (Nat.le_refl _) _).alloc (by simp) _)⟩
end Go.Proofs.YtmodongnganbfaaGreatDoor.Rep
