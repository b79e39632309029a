/- The document's own Order of two versions: it tells what the plain cmpV tells. -/
import Derived.Test.YtoeolaienpopfaaGreatDoorRefF
import Derived.Test.YtoeolaienpopfaaGreatDoorCompV
namespace Go.Proofs.YtoeolaienpopfaaGreatDoor
open Go.RowKit

theorem parse_len {l : List UInt8} {x : List (List UInt8) × List (List UInt8)} (h : parseV l = some x) : ∀ a ∈ x.2, a.length ≤ 30 := by
  unfold parseV at h
  split at h
  · cases h
  · rename_i h30
    split at h
    · cases h
    · rename_i c r
      split at h
      · split at h
        · split at h
          · split at h
            · obtain rfl := Option.some.inj h
              intro a ha
              have h1 := (spl_len _).1 a ha
              have h2 := (cutD_len r).2
              simp at h30
              omega
            · cases h
          · obtain rfl := Option.some.inj h
            intro a ha; cases ha
        · cases h
      · cases h
/-- The two blocks of Order. -/
structure OW (B : Nat) (n0 n1 n2 : Int) (mv : Value) (m0 m1 m2 : Int) (mu : Value) (w : World) : Prop where
  c0 : w.cell? ⟨B, 0, none⟩ = some (.int .i64 n0)
  c1 : w.cell? ⟨B, 1, none⟩ = some (.int .i64 n1)
  c2 : w.cell? ⟨B, 2, none⟩ = some (.int .i64 n2)
  c3 : w.cell? ⟨B, 3, none⟩ = some mv
  d0 : w.cell? ⟨B + 1, 0, none⟩ = some (.int .i64 m0)
  d1 : w.cell? ⟨B + 1, 1, none⟩ = some (.int .i64 m1)
  d2 : w.cell? ⟨B + 1, 2, none⟩ = some (.int .i64 m2)
  d3 : w.cell? ⟨B + 1, 3, none⟩ = some mu
theorem OW.below {B : Nat} {n0 n1 n2 m0 m1 m2 : Int} {mv mu : Value} {w w' : World} (h : OW B n0 n1 n2 mv m0 m1 m2 mu w) (hb : Below w.heap.size w w') : OW B n0 n1 n2 mv m0 m1 m2 mu w' :=
  ⟨cell_below hb h.c0, cell_below hb h.c1, cell_below hb h.c2, cell_below hb h.c3, cell_below hb h.d0, cell_below hb h.d1, cell_below hb h.d2, cell_below hb h.d3⟩
theorem ow_start (w : World) (n0 n1 n2 m0 m1 m2 : Int) (mv mu : Value) : OW w.heap.size n0 n1 n2 mv m0 m1 m2 mu ((w.alloc (.cells #[.int .i64 n0, .int .i64 n1, .int .i64 n2, mv] 43)).alloc (.cells #[.int .i64 m0, .int .i64 m1, .int .i64 m2, mu] 43)) where
  c0 := by rw [World.cell?_alloc2_first]; rfl
  c1 := by rw [World.cell?_alloc2_first]; rfl
  c2 := by rw [World.cell?_alloc2_first]; rfl
  c3 := by rw [World.cell?_alloc2_first]; rfl
  d0 := by rw [World.cell?_alloc2_new]; rfl
  d1 := by rw [World.cell?_alloc2_new]; rfl
  d2 := by rw [World.cell?_alloc2_new]; rfl
  d3 := by rw [World.cell?_alloc2_new]; rfl
theorem cmpV_three (p0 p1 p2 r0 r1 r2 : List UInt8) (M N : List (List UInt8)) : cmpV ([p0, p1, p2], M) ([r0, r1, r2], N) =
    if cmpI (val p0) (val r0) = 0 then (if cmpI (val p1) (val r1) = 0 then (if cmpI (val p2) (val r2) = 0 then tailC cmpM M N else cmpI (val p2) (val r2)) else cmpI (val p1) (val r1)) else cmpI (val p0) (val r0) := by
  unfold cmpV pairC
  simp only [lexC]
  by_cases h0 : cmpI (val p0) (val r0) = 0
  · simp only [h0, if_true]
    by_cases h1 : cmpI (val p1) (val r1) = 0
    · simp only [h1, if_true]
      by_cases h2 : cmpI (val p2) (val r2) = 0
      · simp only [h2, if_true]
      · simp only [h2, if_false]
    · simp only [h1, if_false]
  · simp only [h0, if_false]
theorem lexC_end (L M : List ByteArray) (k : Nat) (hk : k ≤ L.length) (hk' : k ≤ M.length) (h : ¬ (k < L.length ∧ k < M.length)) : lexC cmpM ((L.drop k).map (fun b => b.data.toList)) ((M.drop k).map (fun b => b.data.toList)) = cmpI L.length M.length := by
  by_cases h1 : k < L.length
  · have h2 : ¬ k < M.length := fun h2 => h ⟨h1, h2⟩
    rw [drop_map L k h1, drop_end M k h2]
    show (1 : Int) = _
    rw [cmpI, if_neg (by omega), if_pos (by omega)]
  · rw [drop_end L k h1]
    by_cases h2 : k < M.length
    · rw [drop_map M k h2]
      show (-1 : Int) = _
      rw [cmpI, if_pos (by omega)]
    · rw [drop_end M k h2]
      show (0 : Int) = _
      rw [cmpI, if_neg (by omega), if_neg (by omega)]

set_option maxRecDepth 100000 in
set_option maxHeartbeats 4000000 in
theorem refVOrder_walk (x y : List (List UInt8) × List (List UInt8)) (vv uu : Value) (w : World) (hx : RVerIs w vv x) (hy : RVerIs w uu y)
    (hxm : ∀ a ∈ x.2, markOk a = true ∧ a.length ≤ 30) (hym : ∀ a ∈ y.2, markOk a = true ∧ a.length ≤ 30) :
    Calls Tryz.prog 21 #[vv, uu] w fun e w' => e = .returned (.int .i64 (cmpV x y)) ∧ Below w.heap.size w w' := by
  obtain ⟨p0, p1, p2, mv, L, rfl, rfl, hSL⟩ := hx
  obtain ⟨q0, q1, q2, mu, M, rfl, rfl, hSM⟩ := hy
  have HV : Hid (cmpV ([p0, p1, p2], L.map (fun b : ByteArray => b.data.toList)) ([q0, q1, q2], M.map (fun b : ByteArray => b.data.toList)) = _) := cmpV_three _ _ _ _ _ _ _ _
  have HLM : Hid (∀ b ∈ L, markOk b.data.toList = true ∧ b.size ≤ 30) := fun b hb => by have := hxm b.data.toList (List.mem_map_of_mem hb); rwa [size_len] at this
  have HMM : Hid (∀ b ∈ M, markOk b.data.toList = true ∧ b.size ≤ 30) := fun b hb => by have := hym b.data.toList (List.mem_map_of_mem hb); rwa [size_len] at this
  have HSL : Hid (StrsAt w mv L) := hSL
  have HSM : Hid (StrsAt w mu M) := hSM
  clear hxm hym
  obtain ⟨ao, cap, rfl⟩ := hSL.slice
  obtain ⟨ao', cap', rfl⟩ := hSM.slice
  have hll : L.length ≤ 101 := by obtain ⟨_, h, _⟩ := hSL; exact h
  have hml : M.length ≤ 101 := by obtain ⟨_, h, _⟩ := hSM; exact h
  clear hSL hSM
  obtain ⟨n0, hn0⟩ : ∃ n, n = val p0 := ⟨_, rfl⟩
  obtain ⟨n1, hn1⟩ : ∃ n, n = val p1 := ⟨_, rfl⟩
  obtain ⟨n2, hn2⟩ : ∃ n, n = val p2 := ⟨_, rfl⟩
  obtain ⟨m0, hm0⟩ : ∃ n, n = val q0 := ⟨_, rfl⟩
  obtain ⟨m1, hm1⟩ : ∃ n, n = val q1 := ⟨_, rfl⟩
  obtain ⟨m2, hm2⟩ : ∃ n, n = val q2 := ⟨_, rfl⟩
  rw [← hn0, ← hn1, ← hn2, ← hm0, ← hm1, ← hm2] at HV ⊢
  clear hn0 hn1 hn2 hm0 hm1 hm2
  generalize cmpV ([p0, p1, p2], L.map (fun b : ByteArray => b.data.toList)) ([q0, q1, q2], M.map (fun b : ByteArray => b.data.toList)) = res at *
  clear p0 p1 p2 q0 q1 q2
  have hO := ow_start w n0 n1 n2 m0 m1 m2 (.slice ao L.length cap) (.slice ao' M.length cap')
  have hB0 := below_two w (.cells #[.int .i64 n0, .int .i64 n1, .int .i64 n2, .slice ao L.length cap] 43) (.cells #[.int .i64 m0, .int .i64 m1, .int .i64 m2, .slice ao' M.length cap'] 43)
  go_enter Tryz.func21, Tryz.ntmps21
  go_wp2
  go_loopw [5] (fun i wr => ∃ k : Nat, k ≤ 3 ∧ i = .int .i64 k ∧ OW w.heap.size n0 n1 n2 (.slice ao L.length cap) m0 m1 m2 (.slice ao' M.length cap') wr ∧ Below w.heap.size w wr ∧ Hid (0 < k → cmpI n0 m0 = 0) ∧ Hid (1 < k → cmpI n1 m1 = 0) ∧ Hid (2 < k → cmpI n2 m2 = 0)) (fun i _ => 3 - (intOf i).toNat)
  case atStart => exact ⟨0, Nat.zero_le _, rfl, hO, hB0, fun h => absurd h (by decide), fun h => absurd h (by decide), fun h => absurd h (by decide)⟩
  case round =>
    clear hO hB0
    obtain ⟨k, hk, rfl, hO, hB, H0, H1, H2⟩ := hrel
    have hzr := hB.size
    rcases (by omega : k = 0 ∨ k = 1 ∨ k = 2 ∨ k = 3) with rfl | rfl | rfl | rfl
    · have cc := hO.c0
      have dd := hO.d0
      go_wp2
      go_quiet ((go_at_call 36; exact Calls.quiet_of_same (refOrder_walk _ _ _)))
      have hB2 := hB.trans ((below_drewN nq).mono hzr)
      have hO2 := hO.below (below_drewN nq)
      generalize wr.drewN nq = w3 at *
      clear hO hB cc dd
      by_cases hz : cmpI n0 m0 = 0
      · have HZ : Hid (cmpI n0 m0 = 0) := hz
        rw [hz]
        clear hz
        go_wp2
        go_roundw
        case rel => exact ⟨1, by decide, rfl, hO2, hB2, fun _ => HZ.out, fun h => absurd h (by decide), fun h => absurd h (by decide)⟩
        case measure => simp [intOf]
      · have HZ : Hid (¬ cmpI n0 m0 = 0) := hz
        have HR : Hid (res = cmpI n0 m0) := by show _ = _; rw [HV.out, if_neg HZ.out]
        generalize cmpI n0 m0 = c at *
        have hb : (c != 0) = true := by simpa using hz
        clear hz
        go_wp2
        go_ret
        exact ⟨by rw [HR.out]; rfl, hB2⟩
    · have cc := hO.c1
      have dd := hO.d1
      go_wp2
      go_quiet ((go_at_call 36; exact Calls.quiet_of_same (refOrder_walk _ _ _)))
      have hB2 := hB.trans ((below_drewN nq).mono hzr)
      have hO2 := hO.below (below_drewN nq)
      generalize wr.drewN nq = w3 at *
      clear hO hB cc dd
      by_cases hz : cmpI n1 m1 = 0
      · have HZ : Hid (cmpI n1 m1 = 0) := hz
        rw [hz]
        clear hz
        go_wp2
        go_roundw
        case rel => exact ⟨2, by decide, rfl, hO2, hB2, fun _ => H0.out (by decide), fun _ => HZ.out, fun h => absurd h (by decide)⟩
        case measure => simp [intOf]
      · have HZ : Hid (¬ cmpI n1 m1 = 0) := hz
        have HR : Hid (res = cmpI n1 m1) := by show _ = _; rw [HV.out, if_pos (H0.out (by decide)), if_neg HZ.out]
        generalize cmpI n1 m1 = c at *
        have hb : (c != 0) = true := by simpa using hz
        clear hz
        go_wp2
        go_ret
        exact ⟨by rw [HR.out]; rfl, hB2⟩
    · have cc := hO.c2
      have dd := hO.d2
      go_wp2
      go_quiet ((go_at_call 36; exact Calls.quiet_of_same (refOrder_walk _ _ _)))
      have hB2 := hB.trans ((below_drewN nq).mono hzr)
      have hO2 := hO.below (below_drewN nq)
      generalize wr.drewN nq = w3 at *
      clear hO hB cc dd
      by_cases hz : cmpI n2 m2 = 0
      · have HZ : Hid (cmpI n2 m2 = 0) := hz
        rw [hz]
        clear hz
        go_wp2
        go_roundw
        case rel => exact ⟨3, by decide, rfl, hO2, hB2, fun _ => H0.out (by decide), fun _ => H1.out (by decide), fun _ => HZ.out⟩
        case measure => simp [intOf]
      · have HZ : Hid (¬ cmpI n2 m2 = 0) := hz
        have HR : Hid (res = cmpI n2 m2) := by show _ = _; rw [HV.out, if_pos (H0.out (by decide)), if_pos (H1.out (by decide)), if_neg HZ.out]
        generalize cmpI n2 m2 = c at *
        have hb : (c != 0) = true := by simpa using hz
        clear hz
        go_wp2
        go_ret
        exact ⟨by rw [HR.out]; rfl, hB2⟩
    · have e0 := H0.out (by decide)
      have e1 := H1.out (by decide)
      have e2 := H2.out (by decide)
      have HR : Hid (res = tailC cmpM (L.map (fun b : ByteArray => b.data.toList)) (M.map (fun b : ByteArray => b.data.toList))) := by
        show _ = _
        rw [HV.out, if_pos e0, if_pos e1, if_pos e2]
      clear e0 e1 e2 H0 H1 H2 HV hk
      have c3 := hO.c3
      have d3 := hO.d3
      by_cases hem : L.length = 0 ∨ M.length = 0
      · have HR2 : Hid (res = cmpI M.length L.length) := by
          show _ = _
          rw [HR.out, tailC, if_pos, List.length_map, List.length_map]
          rcases hem with h | h
          · rw [List.eq_nil_of_length_eq_zero h]; rfl
          · rw [List.eq_nil_of_length_eq_zero h]; simp
        rcases hem with h | h
        · have hl0 : ((L.length : Int) == 0) = true := by rw [h]; rfl
          clear h
          go_wp2_with fail
          refine (refOrder_walk _ _ _).mono ?_
          rintro e w' ⟨rfl, rfl⟩
          go_wp2
          go_ret
          exact ⟨by rw [HR2.out]; rfl, hB⟩
        · have hm0 : ((M.length : Int) == 0) = true := by rw [h]; rfl
          by_cases h' : L.length = 0
          · have hl0 : ((L.length : Int) == 0) = true := by rw [h']; rfl
            clear h h'
            go_wp2_with fail
            refine (refOrder_walk _ _ _).mono ?_
            rintro e w' ⟨rfl, rfl⟩
            go_wp2
            go_ret
            exact ⟨by rw [HR2.out]; rfl, hB⟩
          · have hl0 : ((L.length : Int) == 0) = false := by rw [beq_eq_false_iff_ne]; omega
            clear h h'
            go_wp2_with fail
            refine (refOrder_walk _ _ _).mono ?_
            rintro e w' ⟨rfl, rfl⟩
            go_wp2
            go_ret
            exact ⟨by rw [HR2.out]; rfl, hB⟩
      · have hlp : 0 < L.length := by omega
        have hmp : 0 < M.length := by omega
        have HR2 : Hid (res = lexC cmpM (L.map (fun b : ByteArray => b.data.toList)) (M.map (fun b : ByteArray => b.data.toList))) := by
          show _ = _
          rw [HR.out, tailC, if_neg]
          simp only [Bool.or_eq_true, List.isEmpty_iff, List.map_eq_nil_iff, not_or]
          exact ⟨fun e => by rw [e] at hlp; simp at hlp, fun e => by rw [e] at hmp; simp at hmp⟩
        have hl0 : ((L.length : Int) == 0) = false := by rw [beq_eq_false_iff_ne]; omega
        have hm0 : ((M.length : Int) == 0) = false := by rw [beq_eq_false_iff_ne]; omega
        clear hem HR
        obtain ⟨g, capg, hgv, hg, hcap, hCL⟩ := HSL.out.at hlp
        obtain ⟨rfl, rfl⟩ : ao = some ⟨g, 0, none⟩ ∧ cap = capg := by cases hgv; exact ⟨rfl, rfl⟩
        obtain ⟨g', capg', hgv', hg', hcap', hCM⟩ := HSM.out.at hmp
        obtain ⟨rfl, rfl⟩ : ao' = some ⟨g', 0, none⟩ ∧ cap' = capg' := by cases hgv'; exact ⟨rfl, rfl⟩
        have HCL : Hid (∀ k (hk : k < L.length), w.cell? ⟨g, k, none⟩ = some (.string L[k])) := hCL
        have HCM : Hid (∀ k (hk : k < M.length), w.cell? ⟨g', k, none⟩ = some (.string M[k])) := hCM
        clear hgv hgv' hCL hCM
        go_wp2
        go_loopw [9] (fun i w2 => ∃ k : Nat, k ≤ L.length ∧ k ≤ M.length ∧ i = .int .i64 k ∧ OW w.heap.size n0 n1 n2 (.slice (some ⟨g, 0, none⟩) L.length cap) m0 m1 m2 (.slice (some ⟨g', 0, none⟩) M.length cap') w2 ∧ Below w.heap.size w w2 ∧ Hid (lexC cmpM (L.map (fun b => b.data.toList)) (M.map (fun b => b.data.toList)) = lexC cmpM ((L.drop k).map (fun b => b.data.toList)) ((M.drop k).map (fun b => b.data.toList)))) (fun i _ => L.length - (intOf i).toNat)
        case atStart => exact ⟨0, Nat.zero_le _, Nat.zero_le _, rfl, hO, hB, rfl⟩
        case round =>
          clear hO hB hzr c3 d3
          obtain ⟨k, hk, hk', rfl, hO, hB, HX⟩ := hrel
          have hzr := hB.size
          have c3 := hO.c3
          have d3 := hO.d3
          by_cases hboth : k < L.length ∧ k < M.length
          · obtain ⟨hlt, hlt'⟩ := hboth
            have cL := cell_below hB (HCL.out k hlt)
            have cM := cell_below hB (HCM.out k hlt')
            obtain ⟨mk1, sz1⟩ := HLM.out L[k] (List.getElem_mem hlt)
            obtain ⟨mk2, sz2⟩ := HMM.out M[k] (List.getElem_mem hlt')
            have HCall : Hid (∀ w, Calls Tryz.prog 37 #[.string L[k], .string M[k]] w fun e w' => e = .returned (.int .i64 (cmpM L[k].data.toList M[k].data.toList)) ∧ ∃ n, w' = w.drewN n) := fun w => orderMark_walk L[k] M[k] w (by omega) (by omega) mk1 mk2
            have HL : Hid (lexC cmpM ((L.drop k).map (fun b => b.data.toList)) ((M.drop k).map (fun b => b.data.toList)) = if cmpM L[k].data.toList M[k].data.toList = 0 then lexC cmpM ((L.drop (k + 1)).map (fun b => b.data.toList)) ((M.drop (k + 1)).map (fun b => b.data.toList)) else cmpM L[k].data.toList M[k].data.toList) := by
              show _ = _
              rw [drop_map L k hlt, drop_map M k hlt']; rfl
            have ix1 : (0 : Int) ≤ (k : Int) ∧ (k : Int) < (L.length : Int) := ⟨by omega, by omega⟩
            have ix2 : (0 : Int) ≤ (k : Int) ∧ (k : Int) < (M.length : Int) := ⟨by omega, by omega⟩
            clear mk1 mk2 sz1 sz2
            go_wp2
            go_quiet ((go_at_call 37; exact Calls.quiet_of (HCall.out _)))
            have hB2 := hB.trans ((below_drewN nq).mono hzr)
            have hO2 := hO.below (below_drewN nq)
            generalize wr.drewN nq = w3 at *
            clear hO hB c3 d3 cL cM HCall
            generalize hc : cmpM L[k].data.toList M[k].data.toList = c at *
            clear hc
            by_cases h0 : c = 0
            · subst h0
              go_wp2
              go_roundw
              case rel => exact ⟨k + 1, by omega, by omega, by go_num, hO2, hB2, by show _ = _; rw [HX.out, HL.out]; rfl⟩
              case measure => simp [intOf]; omega
            · have hb : (c != 0) = true := by simpa using h0
              have H0 : Hid (¬ c = 0) := h0
              clear h0
              go_wp2
              go_ret
              exact ⟨by rw [HR2.out, HX.out, HL.out, if_neg H0.out]; rfl, hB2⟩
          · have HL : Hid (lexC cmpM ((L.drop k).map (fun b => b.data.toList)) ((M.drop k).map (fun b => b.data.toList)) = cmpI L.length M.length) := lexC_end L M k hk hk' hboth
            by_cases hlt : k < L.length
            · have hlt' : ¬ k < M.length := fun h => hboth ⟨hlt, h⟩
              clear hboth
              go_wp2_with fail
              refine (refOrder_walk _ _ _).mono ?_
              rintro e w' ⟨rfl, rfl⟩
              go_wp2
              go_ret
              exact ⟨by rw [HR2.out, HX.out, HL.out]; rfl, hB⟩
            · clear hboth
              go_wp2_with fail
              refine (refOrder_walk _ _ _).mono ?_
              rintro e w' ⟨rfl, rfl⟩
              go_wp2
              go_ret
              exact ⟨by rw [HR2.out, HX.out, HL.out]; rfl, hB⟩
end Go.Proofs.YtoeolaienpopfaaGreatDoor
