/- names.compareVersions, names.Compare, satchel.Compare: they tell the plain order of versions. -/
import Derived.Test.YtoeolaienpopfaaGreatDoorCompF
namespace Go.Proofs.YtoeolaienpopfaaGreatDoor
open Go.RowKit

theorem lex_val3 (p0 p1 p2 r0 r1 r2 : List UInt8) : lexC (fun a b => cmpI (val a) (val b)) [p0, p1, p2] [r0, r1, r2] = lexC cmpI [val p0, val p1, val p2] [val r0, val r1, val r2] := by simp [lexC]

set_option maxRecDepth 100000 in
set_option maxHeartbeats 2000000 in
theorem compareVersions_walk (vv uu : Value) (x y : List (List UInt8) × List (List UInt8)) (w : World) (hv : VerIs w vv x) (hu : VerIs w uu y) :
    Calls Tryz.prog 35 #[vv, uu] w fun e w' => e = .returned (.int .i64 (cmpV x y)) ∧ Grw w.heap.size w w' := by
  obtain ⟨p0, p1, p2, mv, L, rfl, rfl, hM⟩ := hv
  obtain ⟨r0, r1, r2, nv, M, rfl, rfl, hN⟩ := hu
  obtain ⟨ao, cap, rfl⟩ := hM.slice
  obtain ⟨ao', cap', rfl⟩ := hN.slice
  have hll : L.length ≤ 101 := by obtain ⟨_, h, _⟩ := hM; exact h
  have hml : M.length ≤ 101 := by obtain ⟨_, h, _⟩ := hN; exact h
  have HV : Hid (cmpV ([p0, p1, p2], L.map (fun b : ByteArray => b.data.toList)) ([r0, r1, r2], M.map (fun b : ByteArray => b.data.toList)) = if lexC cmpI [val p0, val p1, val p2] [val r0, val r1, val r2] = 0 then tailC cmpM (L.map (fun b : ByteArray => b.data.toList)) (M.map (fun b : ByteArray => b.data.toList)) else lexC cmpI [val p0, val p1, val p2] [val r0, val r1, val r2]) := by
    show _ = _
    unfold cmpV pairC
    rw [lex_val3]
  generalize val p0 = q0 at *
  generalize val p1 = q1 at *
  generalize val p2 = q2 at *
  generalize val r0 = s0 at *
  generalize val r1 = s1 at *
  generalize val r2 = s2 at *
  have hb2 := grw_two w (.cells #[.int .i64 q0, .int .i64 q1, .int .i64 q2, .slice ao L.length cap] 64) (.cells #[.int .i64 s0, .int .i64 s1, .int .i64 s2, .slice ao' M.length cap'] 64)
  have hM2 := hM.below hb2.below
  have hN2 := hN.below hb2.below
  have hcmp : ∀ n, Calls Tryz.prog 53 #[.slice (some ⟨w.heap.size, 0, none⟩) 3 3, .slice (some ⟨w.heap.size + 1, 0, none⟩) 3 3] (((w.alloc (.cells #[.int .i64 q0, .int .i64 q1, .int .i64 q2, .slice ao L.length cap] 64)).alloc (.cells #[.int .i64 s0, .int .i64 s1, .int .i64 s2, .slice ao' M.length cap'] 64)).drewN n) fun e w' => e = .returned (.int .i64 (lexC cmpI [q0, q1, q2] [s0, s1, s2])) ∧ w' = (((w.alloc (.cells #[.int .i64 q0, .int .i64 q1, .int .i64 q2, .slice ao L.length cap] 64)).alloc (.cells #[.int .i64 s0, .int .i64 s1, .int .i64 s2, .slice ao' M.length cap'] 64)).drewN n) := fun n =>
    compare3_walk w.heap.size (w.heap.size + 1) q0 q1 q2 s0 s1 s2 _ (by simp) (by simp) (by simp) (by simp) (by simp) (by simp)
  have HCmp := hcmp
  clear hM hN hcmp
  go_enter Tryz.func35, Tryz.ntmps35
  go_wp2
  go_quiet ((go_at_call 53; exact Calls.quiet_of_same (HCmp _)))
  clear HCmp
  generalize lexC cmpI [q0, q1, q2] [s0, s1, s2] = c at *
  by_cases h0 : c = 0
  · subst h0
    have HV2 : Hid (cmpV ([p0, p1, p2], L.map (fun b : ByteArray => b.data.toList)) ([r0, r1, r2], M.map (fun b : ByteArray => b.data.toList)) = tailC cmpM (L.map (fun b : ByteArray => b.data.toList)) (M.map (fun b : ByteArray => b.data.toList))) := by
      show _ = _
      rw [HV.out, if_pos rfl]
    clear HV
    by_cases hl : L.length = 0
    · have hb : ((L.length : Int) == 0) = true := by rw [beq_iff_eq]; omega
      have HV3 : Hid (cmpV ([p0, p1, p2], L.map (fun b : ByteArray => b.data.toList)) ([r0, r1, r2], M.map (fun b : ByteArray => b.data.toList)) = cmpI M.length L.length) := by
        show _ = _
        rw [HV2.out, tailC, if_pos (by rw [List.length_eq_zero_iff.1 hl]; rfl), List.length_map, List.length_map]
      clear HV2 hl
      go_wp2_with fail
      refine (Tryz.cmp_Compare_int M.length L.length _).mono ?_
      rintro e w' ⟨rfl, rfl⟩
      rw [compareInt_cmpI]
      go_wp2
      go_ret
      exact ⟨by rw [HV3.out]; rfl, hb2.trans ((grw_drewN _).mono (by simp; omega))⟩
    · have hb : ((L.length : Int) == 0) = false := by rw [beq_eq_false_iff_ne]; omega
      by_cases hm : M.length = 0
      · have hb' : ((M.length : Int) == 0) = true := by rw [beq_iff_eq]; omega
        have HV3 : Hid (cmpV ([p0, p1, p2], L.map (fun b : ByteArray => b.data.toList)) ([r0, r1, r2], M.map (fun b : ByteArray => b.data.toList)) = cmpI M.length L.length) := by
          show _ = _
          rw [HV2.out, tailC, if_pos (by rw [List.length_eq_zero_iff.1 hm]; simp), List.length_map, List.length_map]
        clear HV2 hm
        go_wp2_with fail
        refine (Tryz.cmp_Compare_int M.length L.length _).mono ?_
        rintro e w' ⟨rfl, rfl⟩
        rw [compareInt_cmpI]
        go_wp2
        go_ret
        exact ⟨by rw [HV3.out]; rfl, hb2.trans ((grw_drewN _).mono (by simp; omega))⟩
      · have hb' : ((M.length : Int) == 0) = false := by rw [beq_eq_false_iff_ne]; omega
        have HV3 : Hid (cmpV ([p0, p1, p2], L.map (fun b : ByteArray => b.data.toList)) ([r0, r1, r2], M.map (fun b : ByteArray => b.data.toList)) = lexC cmpM (L.map (fun b : ByteArray => b.data.toList)) (M.map (fun b : ByteArray => b.data.toList))) := by
          show _ = _
          rw [HV2.out, tailC, if_neg]
          simp
          exact ⟨fun e => hl (by rw [e]; rfl), fun e => hm (by rw [e]; rfl)⟩
        have hl' : 0 < L.length := by omega
        have hm' : 0 < M.length := by omega
        clear HV2 hl hm
        go_wp2_with fail
        refine (compareFunc_walk _ _ L M _ (hM2.below (below_drewN _)) (hN2.below (below_drewN _)) hl' hm').mono ?_
        rintro e w1 ⟨rfl, hb3⟩
        go_wp2
        go_ret
        exact ⟨by rw [HV3.out]; rfl, (hb2.trans ((grw_drewN _).mono (by simp; omega))).trans (hb3.mono (by simp; omega))⟩
  · have hb : (c == 0) = false := by simpa using h0
    have HV2 : Hid (cmpV ([p0, p1, p2], L.map (fun b : ByteArray => b.data.toList)) ([r0, r1, r2], M.map (fun b : ByteArray => b.data.toList)) = c) := by
      show _ = _
      rw [HV.out, if_neg h0]
    clear h0 HV
    go_wp2
    go_ret
    exact ⟨by rw [HV2.out]; rfl, hb2.trans ((grw_drewN _).mono (by simp; omega))⟩

/-- What Compare tells: the order and the number of the error. -/
def cmpNo (l m : List UInt8) : Int × Int := match parseV l, parseV m with
  | some x, some y => (cmpV x y, 0)
  | _, _ => (0, 5)
theorem cmpNo_none1 {l m : List UInt8} (h : parseV l = none) : cmpNo l m = (0, 5) := by unfold cmpNo; rw [h]
theorem cmpNo_none2 {l m : List UInt8} (h : parseV m = none) : cmpNo l m = (0, 5) := by unfold cmpNo; rw [h]; cases parseV l <;> rfl
theorem cmpNo_some {l m : List UInt8} {x y : List (List UInt8) × List (List UInt8)} (h : parseV l = some x) (k : parseV m = some y) : cmpNo l m = (cmpV x y, 0) := by unfold cmpNo; rw [h, k]

/-- How names.Compare ends. -/
def CompareEnd (a1 : Addr) (l m : List UInt8) (e : Ending) (w' : World) : Prop :=
  (∃ c, cmpNo l m = (c, 0) ∧ e = .returned (.tuple #[.int .i64 c, .nilIface])) ∨
  (cmpNo l m = (0, 5) ∧ ∃ b, e = .returned (.tuple #[.int .i64 0, .iface 54 (.pointer (some ⟨b, 0, none⟩))]) ∧ w'.cell? ⟨b, 0, none⟩ = some (.iface 142 (.pointer (some a1))))

/-- The zero version's cells. -/
theorem verIs_form {w : World} {vv : Value} {x : List (List UInt8) × List (List UInt8)} (h : VerIs w vv x) : ∃ q0 q1 q2 ao n cap, vv = .agg #[.int .i64 q0, .int .i64 q1, .int .i64 q2, .slice ao n cap] := by
  obtain ⟨p0, p1, p2, mv, L, rfl, rfl, hM⟩ := h
  obtain ⟨ao, cap, rfl⟩ := hM.slice
  exact ⟨_, _, _, _, _, _, rfl⟩

end Go.Proofs.YtoeolaienpopfaaGreatDoor
