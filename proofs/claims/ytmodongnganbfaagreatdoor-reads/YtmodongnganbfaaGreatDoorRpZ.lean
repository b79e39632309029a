/- Replies: the program's tell. -/
import Derived.Test.YtmodongnganbfaaGreatDoorRpY
import Derived.Deep.Cut
namespace Go.Proofs.YtmodongnganbfaaGreatDoor.Rep
open Go.RowKit Go.Proofs.YtmodongnganbfaaGreatDoor Go.Proofs.YtmodongnganbfaaGreatDoor.Sha Go.Proofs.YtmodongnganbfaaGreatDoor.Inf
/-- Seven cells set. -/
def put7 (b : Nat) (v0 v1 v2 v3 v4 v5 v6 : Value) (w : World) : World := (((((((w.setCell ⟨b, 0, none⟩ v0).setCell ⟨b, 1, none⟩ v1).setCell ⟨b, 2, none⟩ v2).setCell ⟨b, 3, none⟩ v3).setCell ⟨b, 4, none⟩ v4).setCell ⟨b, 5, none⟩ v5).setCell ⟨b, 6, none⟩ v6)
theorem put7_only (b : Nat) (v0 v1 v2 v3 v4 v5 v6 : Value) (w : World) : Only (· = b) w (put7 b v0 v1 v2 v3 v4 v5 v6 w) := ((((((((Only.refl _ _).trans (Only.set (S := (· = b)) _ 0 _ rfl)).trans (Only.set (S := (· = b)) _ 1 _ rfl)).trans (Only.set (S := (· = b)) _ 2 _ rfl)).trans (Only.set (S := (· = b)) _ 3 _ rfl)).trans (Only.set (S := (· = b)) _ 4 _ rfl)).trans (Only.set (S := (· = b)) _ 5 _ rfl)).trans (Only.set (S := (· = b)) _ 6 _ rfl))
theorem put7_row {b : Nat} {u0 u1 u2 u3 u4 u5 u6 : Value} (v0 v1 v2 v3 v4 v5 v6 : Value) {w : World} (h : Row w b [u0, u1, u2, u3, u4, u5, u6]) : Row (put7 b v0 v1 v2 v3 v4 v5 v6 w) b [v0, v1, v2, v3, v4, v5, v6] := (((((((h.set 0 v0 (by simp)).set 1 v1 (by simp)).set 2 v2 (by simp)).set 3 v3 (by simp)).set 4 v4 (by simp)).set 5 v5 (by simp)).set 6 v6 (by simp))
theorem keep7 {pm st b : Nat} {tk : Int} {ev v0 v1 v2 v3 v4 v5 v6 : Value} {w : World} (hb : pm < b) (h : w.cell? ⟨pm, 7, none⟩ = some (.int .i64 (st : Int)) ∧ w.cell? ⟨pm, 18, none⟩ = some ev ∧ w.cell? ⟨pm, 4, none⟩ = some (.int .i64 tk)) : (put7 b v0 v1 v2 v3 v4 v5 v6 w).cell? ⟨pm, 7, none⟩ = some (.int .i64 (st : Int)) ∧ (put7 b v0 v1 v2 v3 v4 v5 v6 w).cell? ⟨pm, 18, none⟩ = some ev ∧ (put7 b v0 v1 v2 v3 v4 v5 v6 w).cell? ⟨pm, 4, none⟩ = some (.int .i64 tk) := by
  have hl : pm < w.heap.size := lt_of_cell h.1
  have hk := put7_only b v0 v1 v2 v3 v4 v5 v6 w
  have hn : ¬ (pm = b) := by omega
  exact ⟨by rw [hk.cell (p := ⟨pm, 7, none⟩) hl hn]; exact h.1, by rw [hk.cell (p := ⟨pm, 18, none⟩) hl hn]; exact h.2.1, by rw [hk.cell (p := ⟨pm, 4, none⟩) hl hn]; exact h.2.2⟩
/-- Behind the class: the result's block, and the reply so far. -/
structure TlW (w : World) (c : Nat) (tk : Int) (rb : Nat) (wc : World) : Prop where
  lt : w.heap.size < rb
  res : Row wc w.heap.size [.int .i64 0, .int .i64 0, .string ⟨#[]⟩, .string ⟨#[]⟩, .int .i64 0, .int .i64 0, .int .i64 0]
  row : Row wc rb [.int .i64 (c : Int), .int .i64 0, .string ⟨#[]⟩, .string ⟨#[]⟩, .int .i64 0, .int .i64 0, .int .i64 tk]
  bel : Below w.heap.size w wc
/-- What class does here. -/
def ClsAt (pm st c : Nat) (tk : Int) (ev : Value) (w : World) : Prop := ∀ wx, Below w.heap.size w wx → Calls Tryz.prog 32 #[.int .i64 (st : Int), ev] wx fun e w' => e = .returned (.int .i64 (c : Int)) ∧ Below w.heap.size w w' ∧ Below wx.heap.size wx w' ∧ (w'.cell? ⟨pm, 7, none⟩ = some (.int .i64 (st : Int)) ∧ w'.cell? ⟨pm, 18, none⟩ = some ev ∧ w'.cell? ⟨pm, 4, none⟩ = some (.int .i64 tk))
theorem clsAt {pm st c : Nat} {tk : Int} {ev : Value} {w : World} (k7 : w.cell? ⟨pm, 7, none⟩ = some (.int .i64 (st : Int))) (k18 : w.cell? ⟨pm, 18, none⟩ = some ev) (k4 : w.cell? ⟨pm, 4, none⟩ = some (.int .i64 tk))
    (hC : ∀ wx, Below w.heap.size w wx → Calls Tryz.prog 32 #[.int .i64 (st : Int), ev] wx fun e w' => e = .returned (.int .i64 (c : Int)) ∧ Below wx.heap.size wx w') : ClsAt pm st c tk ev w := fun wx hb => (hC wx hb).mono fun e w' q => by
  have hb' := hb.trans (q.2.mono hb.size)
  exact ⟨q.1, hb', q.2, cell_below hb' k7, cell_below hb' k18, cell_below hb' k4⟩
theorem ClsAt.first {pm st c : Nat} {tk : Int} {ev : Value} {w : World} (h : ClsAt pm st c tk ev w) : Calls Tryz.prog 32 #[.int .i64 (st : Int), ev] ((w.alloc (.cells #[.int .i64 0, .int .i64 0, .string ⟨#[]⟩, .string ⟨#[]⟩, .int .i64 0, .int .i64 0, .int .i64 0] 26)).alloc (.cells #[.int .i64 0, .int .i64 0, .string ⟨#[]⟩, .string ⟨#[]⟩, .int .i64 0, .int .i64 0, .int .i64 0] 26)).drew fun e w' => e = .returned (.int .i64 (c : Int)) ∧ Below w.heap.size w w' ∧ (w'.cell? ⟨pm, 7, none⟩ = some (.int .i64 (st : Int)) ∧ w'.cell? ⟨pm, 18, none⟩ = some ev ∧ w'.cell? ⟨pm, 4, none⟩ = some (.int .i64 tk)) ∧ Row w' w.heap.size [.int .i64 0, .int .i64 0, .string ⟨#[]⟩, .string ⟨#[]⟩, .int .i64 0, .int .i64 0, .int .i64 0] ∧ Row w' (w.heap.size + 1) [.int .i64 0, .int .i64 0, .string ⟨#[]⟩, .string ⟨#[]⟩, .int .i64 0, .int .i64 0, .int .i64 0] := by
  have hb : Below w.heap.size w ((w.alloc (.cells #[.int .i64 0, .int .i64 0, .string ⟨#[]⟩, .string ⟨#[]⟩, .int .i64 0, .int .i64 0, .int .i64 0] 26)).alloc (.cells #[.int .i64 0, .int .i64 0, .string ⟨#[]⟩, .string ⟨#[]⟩, .int .i64 0, .int .i64 0, .int .i64 0] 26)).drew := ((below_one w _).alloc (by simp) _).drew
  have r1 := (prow_new w #[.int .i64 0, .int .i64 0, .string ⟨#[]⟩, .string ⟨#[]⟩, .int .i64 0, .int .i64 0, .int .i64 0] 26 w.heap.size rfl).alloc (by simp) (.cells #[.int .i64 0, .int .i64 0, .string ⟨#[]⟩, .string ⟨#[]⟩, .int .i64 0, .int .i64 0, .int .i64 0] 26)
  have r2 := prow_new (w.alloc (.cells #[.int .i64 0, .int .i64 0, .string ⟨#[]⟩, .string ⟨#[]⟩, .int .i64 0, .int .i64 0, .int .i64 0] 26)) #[.int .i64 0, .int .i64 0, .string ⟨#[]⟩, .string ⟨#[]⟩, .int .i64 0, .int .i64 0, .int .i64 0] 26 (w.heap.size + 1) (by simp)
  refine (h _ hb).mono ?_
  rintro e w' ⟨he, h1, h2, h3⟩
  exact ⟨he, h1, h3, (r1.drew 1).below (by simp) h2, (r2.drew 1).below (by simp) h2⟩
theorem ClsAt.later {pm st c : Nat} {tk : Int} {ev : Value} {w : World} (h : ClsAt pm st c tk ev w) : Calls Tryz.prog 32 #[.int .i64 (st : Int), ev] (w.alloc (.cells #[.int .i64 0, .int .i64 0, .string ⟨#[]⟩, .string ⟨#[]⟩, .int .i64 0, .int .i64 0, .int .i64 0] 26)).drew fun e w' => e = .returned (.int .i64 (c : Int)) ∧ Below w.heap.size w w' ∧ (w'.cell? ⟨pm, 7, none⟩ = some (.int .i64 (st : Int)) ∧ w'.cell? ⟨pm, 18, none⟩ = some ev ∧ w'.cell? ⟨pm, 4, none⟩ = some (.int .i64 tk)) ∧ Row w' w.heap.size [.int .i64 0, .int .i64 0, .string ⟨#[]⟩, .string ⟨#[]⟩, .int .i64 0, .int .i64 0, .int .i64 0] ∧ w.heap.size < w'.heap.size := by
  have hb : Below w.heap.size w (w.alloc (.cells #[.int .i64 0, .int .i64 0, .string ⟨#[]⟩, .string ⟨#[]⟩, .int .i64 0, .int .i64 0, .int .i64 0] 26)).drew := (below_one w _).drew
  have r1 := prow_new w #[.int .i64 0, .int .i64 0, .string ⟨#[]⟩, .string ⟨#[]⟩, .int .i64 0, .int .i64 0, .int .i64 0] 26 w.heap.size rfl
  refine (h _ hb).mono ?_
  rintro e w' ⟨he, h1, h2, h3⟩
  have q := (r1.drew 1).below (by simp) h2
  exact ⟨he, h1, h3, q, q.lt (by simp)⟩
theorem tlw_new {w w2 : World} {c : Nat} {tk : Int} (h1 : Below w.heap.size w w2) (h2 : Row w2 w.heap.size [.int .i64 0, .int .i64 0, .string ⟨#[]⟩, .string ⟨#[]⟩, .int .i64 0, .int .i64 0, .int .i64 0]) (h3 : w.heap.size < w2.heap.size) : TlW w c tk w2.heap.size (w2.alloc (.cells #[.int .i64 (c : Int), .int .i64 0, .string ⟨#[]⟩, .string ⟨#[]⟩, .int .i64 0, .int .i64 0, .int .i64 tk] 26)) :=
  ⟨h3, h2.alloc (by simp) _, prow_new w2 #[.int .i64 (c : Int), .int .i64 0, .string ⟨#[]⟩, .string ⟨#[]⟩, .int .i64 0, .int .i64 0, .int .i64 tk] 26 w2.heap.size rfl, h1.alloc (Nat.le_of_lt h3) _⟩
theorem tlw_put {w w2 : World} {c : Nat} {tk : Int} (h1 : Below w.heap.size w w2) (h2 : Row w2 w.heap.size [.int .i64 0, .int .i64 0, .string ⟨#[]⟩, .string ⟨#[]⟩, .int .i64 0, .int .i64 0, .int .i64 0]) (h3 : Row w2 (w.heap.size + 1) [.int .i64 0, .int .i64 0, .string ⟨#[]⟩, .string ⟨#[]⟩, .int .i64 0, .int .i64 0, .int .i64 0]) : TlW w c tk (w.heap.size + 1) (put7 (w.heap.size + 1) (.int .i64 (c : Int)) (.int .i64 0) (.string ⟨#[]⟩) (.string ⟨#[]⟩) (.int .i64 0) (.int .i64 0) (.int .i64 tk) w2) :=
  ⟨Nat.lt_succ_self _, h2.only (by simp) (put7_only _ _ _ _ _ _ _ _ _) (fun e => by have e : w.heap.size = w.heap.size + 1 := e; omega), put7_row _ _ _ _ _ _ _ h3, h1.trans (only_keeps (put7_only _ _ _ _ _ _ _ _ _) (Nat.le_succ _) (h3.lt (by simp)))⟩
set_option maxHeartbeats 4000000 in
set_option maxRecDepth 100000 in
theorem tell_broken (pm st c : Nat) (tk : Int) (ev : Value) (w : World) (k7 : w.cell? ⟨pm, 7, none⟩ = some (.int .i64 (st : Int))) (k18 : w.cell? ⟨pm, 18, none⟩ = some ev) (k4 : w.cell? ⟨pm, 4, none⟩ = some (.int .i64 tk)) (hC : ClsAt pm st c tk ev w) (hc : c = 6) :
    Calls Tryz.prog 17 #[.pointer (some ⟨pm, 0, none⟩)] w fun e w' => e = .returned (.agg #[.int .i64 6, .int .i64 0, .string ⟨#[]⟩, .string ⟨#[]⟩, .int .i64 0, .int .i64 0, .int .i64 tk]) ∧ Below w.heap.size w w' := by
  have hlt : pm < w.heap.size := lt_of_cell k7
  subst hc
  have HCA := hC.first
  have HCB := hC.later
  clear hC
  go_enter Tryz.func17, Tryz.ntmps17
  go_upto_region 1 with fail
  go_cut [3] from 4 (fun r3 wc => ∃ rb, r3 = .pointer (some ⟨rb, 0, none⟩) ∧ Hid (TlW w 6 tk rb wc))
  case first =>
    go_region_held3 (fun w' => w'.cell? ⟨pm, 7, none⟩ = some (.int .i64 (st : Int)) ∧ w'.cell? ⟨pm, 18, none⟩ = some ev ∧ w'.cell? ⟨pm, 4, none⟩ = some (.int .i64 tk)) (first | go_keep | exact keep7 (by omega) hS2)
      (first
        | (go_at_call 32; refine HCA.mono ?_; rintro e w2 ⟨rfl, hBw, hS2, hr0, hrr⟩; have a0 : w2.cell? ⟨w.heap.size + 1, 0, none⟩ = some (.int .i64 0) := hrr.cell 0 _ rfl; have g0 := hrr.fro 0; have a1 : w2.cell? ⟨w.heap.size + 1, 1, none⟩ = some (.int .i64 0) := hrr.cell 1 _ rfl; have g1 := hrr.fro 1; have a2 : w2.cell? ⟨w.heap.size + 1, 2, none⟩ = some (.string ⟨#[]⟩) := hrr.cell 2 _ rfl; have g2 := hrr.fro 2; have a3 : w2.cell? ⟨w.heap.size + 1, 3, none⟩ = some (.string ⟨#[]⟩) := hrr.cell 3 _ rfl; have g3 := hrr.fro 3; have a4 : w2.cell? ⟨w.heap.size + 1, 4, none⟩ = some (.int .i64 0) := hrr.cell 4 _ rfl; have g4 := hrr.fro 4; have a5 : w2.cell? ⟨w.heap.size + 1, 5, none⟩ = some (.int .i64 0) := hrr.cell 5 _ rfl; have g5 := hrr.fro 5; have a6 : w2.cell? ⟨w.heap.size + 1, 6, none⟩ = some (.int .i64 0) := hrr.cell 6 _ rfl; have g6 := hrr.fro 6)
        | (go_at_call 32; refine HCB.mono ?_; rintro e w2 ⟨rfl, hBw, hS2, hr0, hlt2⟩))
    all_goals (go_wp2_with fail; go_meet)
    · exact ⟨_, rfl, tlw_new hBw hr0 hlt2⟩
    · exact ⟨_, rfl, tlw_put hBw hr0 hrr⟩
  case rest =>
    obtain ⟨rb, rfl, HT⟩ := hcut
    have hrb := HT.out.lt
    have HB : Hid (Below w.heap.size w wc) := HT.out.bel
    have r0 : wc.cell? ⟨w.heap.size, 0, none⟩ = some (.int .i64 0) := HT.out.res.cell 0 _ rfl
    have z0 := HT.out.res.fro 0
    have r1 : wc.cell? ⟨w.heap.size, 1, none⟩ = some (.int .i64 0) := HT.out.res.cell 1 _ rfl
    have z1 := HT.out.res.fro 1
    have r2 : wc.cell? ⟨w.heap.size, 2, none⟩ = some (.string ⟨#[]⟩) := HT.out.res.cell 2 _ rfl
    have z2 := HT.out.res.fro 2
    have r3 : wc.cell? ⟨w.heap.size, 3, none⟩ = some (.string ⟨#[]⟩) := HT.out.res.cell 3 _ rfl
    have z3 := HT.out.res.fro 3
    have r4 : wc.cell? ⟨w.heap.size, 4, none⟩ = some (.int .i64 0) := HT.out.res.cell 4 _ rfl
    have z4 := HT.out.res.fro 4
    have r5 : wc.cell? ⟨w.heap.size, 5, none⟩ = some (.int .i64 0) := HT.out.res.cell 5 _ rfl
    have z5 := HT.out.res.fro 5
    have r6 : wc.cell? ⟨w.heap.size, 6, none⟩ = some (.int .i64 0) := HT.out.res.cell 6 _ rfl
    have z6 := HT.out.res.fro 6
    have b0 : wc.cell? ⟨rb, 0, none⟩ = some (.int .i64 6) := HT.out.row.cell 0 _ rfl
    have y0 := HT.out.row.fro 0
    have b1 : wc.cell? ⟨rb, 1, none⟩ = some (.int .i64 0) := HT.out.row.cell 1 _ rfl
    have y1 := HT.out.row.fro 1
    have b2 : wc.cell? ⟨rb, 2, none⟩ = some (.string ⟨#[]⟩) := HT.out.row.cell 2 _ rfl
    have y2 := HT.out.row.fro 2
    have b3 : wc.cell? ⟨rb, 3, none⟩ = some (.string ⟨#[]⟩) := HT.out.row.cell 3 _ rfl
    have y3 := HT.out.row.fro 3
    have b4 : wc.cell? ⟨rb, 4, none⟩ = some (.int .i64 0) := HT.out.row.cell 4 _ rfl
    have y4 := HT.out.row.fro 4
    have b5 : wc.cell? ⟨rb, 5, none⟩ = some (.int .i64 0) := HT.out.row.cell 5 _ rfl
    have y5 := HT.out.row.fro 5
    have b6 : wc.cell? ⟨rb, 6, none⟩ = some (.int .i64 tk) := HT.out.row.cell 6 _ rfl
    have y6 := HT.out.row.fro 6
    clear HCA HCB k7 k18 k4
    go_wp2
    refine bodyPost_ret (v := .agg #[.int .i64 6, .int .i64 0, .string ⟨#[]⟩, .string ⟨#[]⟩, .int .i64 0, .int .i64 0, .int .i64 tk]) (by simp [results, Tryz.results17, go_sem, r0, r1, r2, r3, r4, r5, r6]) rfl ⟨rfl, ?_⟩
    exact (((((((HB.out.setCell (p := ⟨w.heap.size, 0, none⟩) (Nat.le_refl _) _).setCell (p := ⟨w.heap.size, 1, none⟩) (Nat.le_refl _) _).setCell (p := ⟨w.heap.size, 2, none⟩) (Nat.le_refl _) _).setCell (p := ⟨w.heap.size, 3, none⟩) (Nat.le_refl _) _).setCell (p := ⟨w.heap.size, 4, none⟩) (Nat.le_refl _) _).setCell (p := ⟨w.heap.size, 5, none⟩) (Nat.le_refl _) _).setCell (p := ⟨w.heap.size, 6, none⟩) (Nat.le_refl _) _)
set_option maxHeartbeats 4000000 in
set_option maxRecDepth 100000 in
theorem tell_part (pm st c : Nat) (tk : Int) (ev : Value) (w : World) (k7 : w.cell? ⟨pm, 7, none⟩ = some (.int .i64 (st : Int))) (k18 : w.cell? ⟨pm, 18, none⟩ = some ev) (k4 : w.cell? ⟨pm, 4, none⟩ = some (.int .i64 tk)) (hC : ClsAt pm st c tk ev w) (tg : ByteArray) (bv : Value) (body : Bytes) (fi to : Int) (hc : c ≠ 6) (k12 : w.cell? ⟨pm, 12, none⟩ = some (.string tg)) (k17 : w.cell? ⟨pm, 17, none⟩ = some bv) (hO : Own w pm bv (body.map u8v)) (k14 : w.cell? ⟨pm, 14, none⟩ = some (.int .i64 fi)) (k16 : w.cell? ⟨pm, 16, none⟩ = some (.int .i64 to)) (hst : st = 206) :
    Calls Tryz.prog 17 #[.pointer (some ⟨pm, 0, none⟩)] w fun e w' => e = .returned (.agg #[.int .i64 (c : Int), .int .i64 (st : Int), .string tg, .string ⟨body.toArray⟩, .int .i64 fi, .int .i64 to, .int .i64 tk]) ∧ Below w.heap.size w w' := by
  have hlt : pm < w.heap.size := lt_of_cell k7
  have tc : ((c : Int) == 6) = false := by rw [beq_eq_false_iff_ne]; omega
  have t6 : ((st : Int) == 206) = true := by rw [beq_iff_eq]; omega
  clear hst
  clear hc
  have HCA := hC.first
  have HCB := hC.later
  clear hC
  go_enter Tryz.func17, Tryz.ntmps17
  go_upto_region 1 with fail
  go_cut [3] from 4 (fun r3 wc => ∃ rb, r3 = .pointer (some ⟨rb, 0, none⟩) ∧ Hid (TlW w c tk rb wc))
  case first =>
    go_region_held3 (fun w' => w'.cell? ⟨pm, 7, none⟩ = some (.int .i64 (st : Int)) ∧ w'.cell? ⟨pm, 18, none⟩ = some ev ∧ w'.cell? ⟨pm, 4, none⟩ = some (.int .i64 tk)) (first | go_keep | exact keep7 (by omega) hS2)
      (first
        | (go_at_call 32; refine HCA.mono ?_; rintro e w2 ⟨rfl, hBw, hS2, hr0, hrr⟩; have a0 : w2.cell? ⟨w.heap.size + 1, 0, none⟩ = some (.int .i64 0) := hrr.cell 0 _ rfl; have g0 := hrr.fro 0; have a1 : w2.cell? ⟨w.heap.size + 1, 1, none⟩ = some (.int .i64 0) := hrr.cell 1 _ rfl; have g1 := hrr.fro 1; have a2 : w2.cell? ⟨w.heap.size + 1, 2, none⟩ = some (.string ⟨#[]⟩) := hrr.cell 2 _ rfl; have g2 := hrr.fro 2; have a3 : w2.cell? ⟨w.heap.size + 1, 3, none⟩ = some (.string ⟨#[]⟩) := hrr.cell 3 _ rfl; have g3 := hrr.fro 3; have a4 : w2.cell? ⟨w.heap.size + 1, 4, none⟩ = some (.int .i64 0) := hrr.cell 4 _ rfl; have g4 := hrr.fro 4; have a5 : w2.cell? ⟨w.heap.size + 1, 5, none⟩ = some (.int .i64 0) := hrr.cell 5 _ rfl; have g5 := hrr.fro 5; have a6 : w2.cell? ⟨w.heap.size + 1, 6, none⟩ = some (.int .i64 0) := hrr.cell 6 _ rfl; have g6 := hrr.fro 6)
        | (go_at_call 32; refine HCB.mono ?_; rintro e w2 ⟨rfl, hBw, hS2, hr0, hlt2⟩))
    all_goals (go_wp2_with fail; go_meet)
    · exact ⟨_, rfl, tlw_new hBw hr0 hlt2⟩
    · exact ⟨_, rfl, tlw_put hBw hr0 hrr⟩
  case rest =>
    obtain ⟨rb, rfl, HT⟩ := hcut
    have hrb := HT.out.lt
    have HB : Hid (Below w.heap.size w wc) := HT.out.bel
    have r0 : wc.cell? ⟨w.heap.size, 0, none⟩ = some (.int .i64 0) := HT.out.res.cell 0 _ rfl
    have z0 := HT.out.res.fro 0
    have r1 : wc.cell? ⟨w.heap.size, 1, none⟩ = some (.int .i64 0) := HT.out.res.cell 1 _ rfl
    have z1 := HT.out.res.fro 1
    have r2 : wc.cell? ⟨w.heap.size, 2, none⟩ = some (.string ⟨#[]⟩) := HT.out.res.cell 2 _ rfl
    have z2 := HT.out.res.fro 2
    have r3 : wc.cell? ⟨w.heap.size, 3, none⟩ = some (.string ⟨#[]⟩) := HT.out.res.cell 3 _ rfl
    have z3 := HT.out.res.fro 3
    have r4 : wc.cell? ⟨w.heap.size, 4, none⟩ = some (.int .i64 0) := HT.out.res.cell 4 _ rfl
    have z4 := HT.out.res.fro 4
    have r5 : wc.cell? ⟨w.heap.size, 5, none⟩ = some (.int .i64 0) := HT.out.res.cell 5 _ rfl
    have z5 := HT.out.res.fro 5
    have r6 : wc.cell? ⟨w.heap.size, 6, none⟩ = some (.int .i64 0) := HT.out.res.cell 6 _ rfl
    have z6 := HT.out.res.fro 6
    have b0 : wc.cell? ⟨rb, 0, none⟩ = some (.int .i64 (c : Int)) := HT.out.row.cell 0 _ rfl
    have y0 := HT.out.row.fro 0
    have b1 : wc.cell? ⟨rb, 1, none⟩ = some (.int .i64 0) := HT.out.row.cell 1 _ rfl
    have y1 := HT.out.row.fro 1
    have b2 : wc.cell? ⟨rb, 2, none⟩ = some (.string ⟨#[]⟩) := HT.out.row.cell 2 _ rfl
    have y2 := HT.out.row.fro 2
    have b3 : wc.cell? ⟨rb, 3, none⟩ = some (.string ⟨#[]⟩) := HT.out.row.cell 3 _ rfl
    have y3 := HT.out.row.fro 3
    have b4 : wc.cell? ⟨rb, 4, none⟩ = some (.int .i64 0) := HT.out.row.cell 4 _ rfl
    have y4 := HT.out.row.fro 4
    have b5 : wc.cell? ⟨rb, 5, none⟩ = some (.int .i64 0) := HT.out.row.cell 5 _ rfl
    have y5 := HT.out.row.fro 5
    have b6 : wc.cell? ⟨rb, 6, none⟩ = some (.int .i64 tk) := HT.out.row.cell 6 _ rfl
    have y6 := HT.out.row.fro 6
    have m7 := cell_below HT.out.bel k7
    have m12 := cell_below HT.out.bel k12
    have m17 := cell_below HT.out.bel k17
    have m14 := cell_below HT.out.bel k14
    have m16 := cell_below HT.out.bel k16
    have HOc : Hid (Own wc pm bv (body.map u8v)) := hO.step (HT.out.bel)
    have hcv : (convert 48 9 bv).run Tryz.prog ((wc.setCell ⟨rb, 1, none⟩ (.int .i64 (st : Int))).setCell ⟨rb, 2, none⟩ (.string tg)) = .ok (.string ⟨body.toArray⟩) ((wc.setCell ⟨rb, 1, none⟩ (.int .i64 (st : Int))).setCell ⟨rb, 2, none⟩ (.string tg)) := own_string (own_only' HOc.out ((Only.set (S := (· = rb)) wc 1 _ rfl).trans (Only.set (S := (· = rb)) _ 2 _ rfl)) (fun g hg e => by have := own_block_lt hO g hg; have e : g = rb := e; omega))
    obtain ⟨ao, vn, vc, rfl⟩ := own_slice' hO
    clear k12 k17 hO k14 k16
    clear HCA HCB k7 k18 k4
    go_wp2
    refine bodyPost_ret (v := .agg #[.int .i64 (c : Int), .int .i64 (st : Int), .string tg, .string ⟨body.toArray⟩, .int .i64 fi, .int .i64 to, .int .i64 tk]) (by simp [results, Tryz.results17, go_sem, r0, r1, r2, r3, r4, r5, r6]) rfl ⟨rfl, ?_⟩
    exact ((((((((((((HB.out.setCell (p := ⟨rb, 1, none⟩) (Nat.le_of_lt hrb) _).setCell (p := ⟨rb, 2, none⟩) (Nat.le_of_lt hrb) _).setCell (p := ⟨rb, 3, none⟩) (Nat.le_of_lt hrb) _).setCell (p := ⟨rb, 4, none⟩) (Nat.le_of_lt hrb) _).setCell (p := ⟨rb, 5, none⟩) (Nat.le_of_lt hrb) _).setCell (p := ⟨w.heap.size, 0, none⟩) (Nat.le_refl _) _).setCell (p := ⟨w.heap.size, 1, none⟩) (Nat.le_refl _) _).setCell (p := ⟨w.heap.size, 2, none⟩) (Nat.le_refl _) _).setCell (p := ⟨w.heap.size, 3, none⟩) (Nat.le_refl _) _).setCell (p := ⟨w.heap.size, 4, none⟩) (Nat.le_refl _) _).setCell (p := ⟨w.heap.size, 5, none⟩) (Nat.le_refl _) _).setCell (p := ⟨w.heap.size, 6, none⟩) (Nat.le_refl _) _)
set_option maxHeartbeats 4000000 in
set_option maxRecDepth 100000 in
theorem tell_whole (pm st c : Nat) (tk : Int) (ev : Value) (w : World) (k7 : w.cell? ⟨pm, 7, none⟩ = some (.int .i64 (st : Int))) (k18 : w.cell? ⟨pm, 18, none⟩ = some ev) (k4 : w.cell? ⟨pm, 4, none⟩ = some (.int .i64 tk)) (hC : ClsAt pm st c tk ev w) (tg : ByteArray) (bv : Value) (body : Bytes) (hc : c ≠ 6) (k12 : w.cell? ⟨pm, 12, none⟩ = some (.string tg)) (k17 : w.cell? ⟨pm, 17, none⟩ = some bv) (hO : Own w pm bv (body.map u8v)) (hst : st ≠ 206) :
    Calls Tryz.prog 17 #[.pointer (some ⟨pm, 0, none⟩)] w fun e w' => e = .returned (.agg #[.int .i64 (c : Int), .int .i64 (st : Int), .string tg, .string ⟨body.toArray⟩, .int .i64 0, .int .i64 0, .int .i64 tk]) ∧ Below w.heap.size w w' := by
  have hlt : pm < w.heap.size := lt_of_cell k7
  have tc : ((c : Int) == 6) = false := by rw [beq_eq_false_iff_ne]; omega
  have t6 : ((st : Int) == 206) = false := by rw [beq_eq_false_iff_ne]; omega
  clear hst
  clear hc
  have HCA := hC.first
  have HCB := hC.later
  clear hC
  go_enter Tryz.func17, Tryz.ntmps17
  go_upto_region 1 with fail
  go_cut [3] from 4 (fun r3 wc => ∃ rb, r3 = .pointer (some ⟨rb, 0, none⟩) ∧ Hid (TlW w c tk rb wc))
  case first =>
    go_region_held3 (fun w' => w'.cell? ⟨pm, 7, none⟩ = some (.int .i64 (st : Int)) ∧ w'.cell? ⟨pm, 18, none⟩ = some ev ∧ w'.cell? ⟨pm, 4, none⟩ = some (.int .i64 tk)) (first | go_keep | exact keep7 (by omega) hS2)
      (first
        | (go_at_call 32; refine HCA.mono ?_; rintro e w2 ⟨rfl, hBw, hS2, hr0, hrr⟩; have a0 : w2.cell? ⟨w.heap.size + 1, 0, none⟩ = some (.int .i64 0) := hrr.cell 0 _ rfl; have g0 := hrr.fro 0; have a1 : w2.cell? ⟨w.heap.size + 1, 1, none⟩ = some (.int .i64 0) := hrr.cell 1 _ rfl; have g1 := hrr.fro 1; have a2 : w2.cell? ⟨w.heap.size + 1, 2, none⟩ = some (.string ⟨#[]⟩) := hrr.cell 2 _ rfl; have g2 := hrr.fro 2; have a3 : w2.cell? ⟨w.heap.size + 1, 3, none⟩ = some (.string ⟨#[]⟩) := hrr.cell 3 _ rfl; have g3 := hrr.fro 3; have a4 : w2.cell? ⟨w.heap.size + 1, 4, none⟩ = some (.int .i64 0) := hrr.cell 4 _ rfl; have g4 := hrr.fro 4; have a5 : w2.cell? ⟨w.heap.size + 1, 5, none⟩ = some (.int .i64 0) := hrr.cell 5 _ rfl; have g5 := hrr.fro 5; have a6 : w2.cell? ⟨w.heap.size + 1, 6, none⟩ = some (.int .i64 0) := hrr.cell 6 _ rfl; have g6 := hrr.fro 6)
        | (go_at_call 32; refine HCB.mono ?_; rintro e w2 ⟨rfl, hBw, hS2, hr0, hlt2⟩))
    all_goals (go_wp2_with fail; go_meet)
    · exact ⟨_, rfl, tlw_new hBw hr0 hlt2⟩
    · exact ⟨_, rfl, tlw_put hBw hr0 hrr⟩
  case rest =>
    obtain ⟨rb, rfl, HT⟩ := hcut
    have hrb := HT.out.lt
    have HB : Hid (Below w.heap.size w wc) := HT.out.bel
    have r0 : wc.cell? ⟨w.heap.size, 0, none⟩ = some (.int .i64 0) := HT.out.res.cell 0 _ rfl
    have z0 := HT.out.res.fro 0
    have r1 : wc.cell? ⟨w.heap.size, 1, none⟩ = some (.int .i64 0) := HT.out.res.cell 1 _ rfl
    have z1 := HT.out.res.fro 1
    have r2 : wc.cell? ⟨w.heap.size, 2, none⟩ = some (.string ⟨#[]⟩) := HT.out.res.cell 2 _ rfl
    have z2 := HT.out.res.fro 2
    have r3 : wc.cell? ⟨w.heap.size, 3, none⟩ = some (.string ⟨#[]⟩) := HT.out.res.cell 3 _ rfl
    have z3 := HT.out.res.fro 3
    have r4 : wc.cell? ⟨w.heap.size, 4, none⟩ = some (.int .i64 0) := HT.out.res.cell 4 _ rfl
    have z4 := HT.out.res.fro 4
    have r5 : wc.cell? ⟨w.heap.size, 5, none⟩ = some (.int .i64 0) := HT.out.res.cell 5 _ rfl
    have z5 := HT.out.res.fro 5
    have r6 : wc.cell? ⟨w.heap.size, 6, none⟩ = some (.int .i64 0) := HT.out.res.cell 6 _ rfl
    have z6 := HT.out.res.fro 6
    have b0 : wc.cell? ⟨rb, 0, none⟩ = some (.int .i64 (c : Int)) := HT.out.row.cell 0 _ rfl
    have y0 := HT.out.row.fro 0
    have b1 : wc.cell? ⟨rb, 1, none⟩ = some (.int .i64 0) := HT.out.row.cell 1 _ rfl
    have y1 := HT.out.row.fro 1
    have b2 : wc.cell? ⟨rb, 2, none⟩ = some (.string ⟨#[]⟩) := HT.out.row.cell 2 _ rfl
    have y2 := HT.out.row.fro 2
    have b3 : wc.cell? ⟨rb, 3, none⟩ = some (.string ⟨#[]⟩) := HT.out.row.cell 3 _ rfl
    have y3 := HT.out.row.fro 3
    have b4 : wc.cell? ⟨rb, 4, none⟩ = some (.int .i64 0) := HT.out.row.cell 4 _ rfl
    have y4 := HT.out.row.fro 4
    have b5 : wc.cell? ⟨rb, 5, none⟩ = some (.int .i64 0) := HT.out.row.cell 5 _ rfl
    have y5 := HT.out.row.fro 5
    have b6 : wc.cell? ⟨rb, 6, none⟩ = some (.int .i64 tk) := HT.out.row.cell 6 _ rfl
    have y6 := HT.out.row.fro 6
    have m7 := cell_below HT.out.bel k7
    have m12 := cell_below HT.out.bel k12
    have m17 := cell_below HT.out.bel k17
    have HOc : Hid (Own wc pm bv (body.map u8v)) := hO.step (HT.out.bel)
    have hcv : (convert 48 9 bv).run Tryz.prog ((wc.setCell ⟨rb, 1, none⟩ (.int .i64 (st : Int))).setCell ⟨rb, 2, none⟩ (.string tg)) = .ok (.string ⟨body.toArray⟩) ((wc.setCell ⟨rb, 1, none⟩ (.int .i64 (st : Int))).setCell ⟨rb, 2, none⟩ (.string tg)) := own_string (own_only' HOc.out ((Only.set (S := (· = rb)) wc 1 _ rfl).trans (Only.set (S := (· = rb)) _ 2 _ rfl)) (fun g hg e => by have := own_block_lt hO g hg; have e : g = rb := e; omega))
    obtain ⟨ao, vn, vc, rfl⟩ := own_slice' hO
    clear k12 k17 hO
    clear HCA HCB k7 k18 k4
    go_wp2
    refine bodyPost_ret (v := .agg #[.int .i64 (c : Int), .int .i64 (st : Int), .string tg, .string ⟨body.toArray⟩, .int .i64 0, .int .i64 0, .int .i64 tk]) (by simp [results, Tryz.results17, go_sem, r0, r1, r2, r3, r4, r5, r6]) rfl ⟨rfl, ?_⟩
    exact ((((((((((HB.out.setCell (p := ⟨rb, 1, none⟩) (Nat.le_of_lt hrb) _).setCell (p := ⟨rb, 2, none⟩) (Nat.le_of_lt hrb) _).setCell (p := ⟨rb, 3, none⟩) (Nat.le_of_lt hrb) _).setCell (p := ⟨w.heap.size, 0, none⟩) (Nat.le_refl _) _).setCell (p := ⟨w.heap.size, 1, none⟩) (Nat.le_refl _) _).setCell (p := ⟨w.heap.size, 2, none⟩) (Nat.le_refl _) _).setCell (p := ⟨w.heap.size, 3, none⟩) (Nat.le_refl _) _).setCell (p := ⟨w.heap.size, 4, none⟩) (Nat.le_refl _) _).setCell (p := ⟨w.heap.size, 5, none⟩) (Nat.le_refl _) _).setCell (p := ⟨w.heap.size, 6, none⟩) (Nat.le_refl _) _)
end Go.Proofs.YtmodongnganbfaaGreatDoor.Rep
