/- The document's own schedule: the 64 words of a block. -/
import Derived.Test.YtpboclnfjpofjaaDoorShaNat
import Derived.Test.YtpboclnfjpofjaaDoorShaStep
namespace Go.Proofs.YtpboclnfjpofjaaDoor.Sha
open Go.RowKit

def i64v (n : Nat) : Value := .int .i64 (n : Int)
theorem i64v_one (c : Nat) : (i64v c).oneCell' = true := rfl
theorem i64Info : (Tryd.prog.info? 3).map (fun i => (i.zero, i.size, i.bytes)) = some (some (.int .i64 0), 1, 8) := by kernel_rfl
/-- Bytes that lie in memory. -/
def BytesAt (w : World) (bb off : Nat) (l : List UInt8) : Prop := ∀ j, j < l.length → w.cell? ⟨bb, off + j, none⟩ = some (.int .u8 ((l.getD j 0).toNat : Int))
theorem OwnL.cellAt {w : World} {base g n cap : Nat} {l : List Nat} (h : OwnL i64v w base (.slice (some ⟨g, 0, none⟩) n cap) l) (j : Nat) (hj : j < l.length) : w.cell? ⟨g, j, none⟩ = some (.int .i64 ((l.getD j 0 : Nat) : Int)) := by
  rcases h with ⟨h, _⟩ | ⟨g', cap', hv, _, _, _, hc, _⟩
  · cases h
  · injection hv with e1 _ _
    injection e1 with e1
    injection e1 with e1
    subst e1
    exact hc j _ (by simp [hj, i64v])
theorem keep_cell {w w' : World} {g n cap : Nat} (H : Hid (∀ (p : Addr) u, w.cell? p = some u → (∀ g' n' cap', Value.slice (some ⟨g, 0, none⟩) n cap = .slice (some ⟨g', 0, none⟩) n' cap' → p.block = g' → p.off < n') → w'.cell? p = some u)) (j : Nat) (hj : j < n) {u : Value} (h : w.cell? ⟨g, j, none⟩ = some u) : w'.cell? ⟨g, j, none⟩ = some u :=
  H.out ⟨g, j, none⟩ u h (fun g' n' cap' he _ => by
    injection he with _ e2 _
    rw [← e2]; exact hj)
set_option maxRecDepth 100000 in
set_option maxHeartbeats 4000000 in
theorem sched_core (b : List UInt8) (bb off cap N : Nat) (HN : Hid (N = 64)) (w : World) (hb : b.length = 64) (HBy : Hid (BytesAt w bb off b)) (hbb : bb < w.heap.size) :
    Calls Tryd.prog 11 #[.slice (some ⟨bb, off, none⟩) 64 cap] w fun e w' => ∃ v, e = .returned v ∧ OwnL i64v w' w.heap.size v (sch b N) ∧ Below w.heap.size w w' := by
  obtain ⟨i0, hi, hz0, hz1, hz2⟩ := info_parts i64Info
  go_enter Tryd.func11, Tryd.ntmps11
  go_wp2
  go_loopw [3, 4] (fun v i wr => ∃ (k : Nat) (W : List Nat), k ≤ 64 ∧ i = .int .i64 k ∧ OwnL i64v wr w.heap.size v W ∧ Hid (W = sch b k) ∧ Hid (W.length = k) ∧ Below w.heap.size w wr) (fun _ i _ => 64 - (intOf i).toNat)
  case atStart => exact ⟨0, [], by omega, rfl, Own.nil _ _, rfl, rfl, Below.refl _ _⟩
  case round =>
    obtain ⟨k, W, hk, rfl, ho, HW, HWl, hB⟩ := hrel
    have hz := hB.size
    by_cases hlt : k < 64
    · by_cases h16 : k < 16
      · obtain ⟨y0, HX0⟩ : ∃ x, Hid ((b.getD (4 * k) 0).toNat = x) := ⟨_, rfl⟩
        obtain ⟨y1, HX1⟩ : ∃ x, Hid ((b.getD (4 * k + 1) 0).toNat = x) := ⟨_, rfl⟩
        obtain ⟨y2, HX2⟩ : ∃ x, Hid ((b.getD (4 * k + 2) 0).toNat = x) := ⟨_, rfl⟩
        obtain ⟨y3, HX3⟩ : ∃ x, Hid ((b.getD (4 * k + 3) 0).toNat = x) := ⟨_, rfl⟩
        have l0 : y0 < 256 := by rw [← HX0.out]; exact UInt8.toNat_lt _
        have l1 : y1 < 256 := by rw [← HX1.out]; exact UInt8.toNat_lt _
        have l2 : y2 < 256 := by rw [← HX2.out]; exact UInt8.toNat_lt _
        have l3 : y3 < 256 := by rw [← HX3.out]; exact UInt8.toNat_lt _
        have cc : ∀ j, j < 64 → wr.cell? ⟨bb, off + j, none⟩ = some (.int .u8 ((b.getD j 0).toNat : Int)) := fun j hj => by
          rw [hB.cell (p := ⟨bb, off + j, none⟩) hbb]; exact HBy.out j (by omega)
        have c0 := cc (4 * k) (by omega)
        have c1 := cc (4 * k + 1) (by omega)
        have c2 := cc (4 * k + 2) (by omega)
        have c3 := cc (4 * k + 3) (by omega)
        rw [HX0.out] at c0; rw [HX1.out] at c1; rw [HX2.out] at c2; rw [HX3.out] at c3
        clear cc
        obtain ⟨a1, r1, HA1⟩ : ∃ a : Nat, IntKind.i64.wrap ((y0 : Int) * 256) = (a : Int) ∧ Hid (a = y0 * 256) := ⟨_, by rw [show (y0 : Int) * 256 = ((y0 * 256 : Nat) : Int) by omega]; exact wrap_i64_nat _ (by omega), rfl⟩
        have b1 : a1 < 65536 := by have := HA1.out; omega
        obtain ⟨s1, r2, HA2⟩ : ∃ a : Nat, IntKind.i64.wrap ((a1 : Int) + (y1 : Int)) = (a : Int) ∧ Hid (a = a1 + y1) := ⟨_, by rw [show (a1 : Int) + (y1 : Int) = ((a1 + y1 : Nat) : Int) by omega]; exact wrap_i64_nat _ (by omega), rfl⟩
        have b2 : s1 < 65536 := by have := HA1.out; have := HA2.out; omega
        obtain ⟨a2, r3, HA3⟩ : ∃ a : Nat, IntKind.i64.wrap ((s1 : Int) * 256) = (a : Int) ∧ Hid (a = s1 * 256) := ⟨_, by rw [show (s1 : Int) * 256 = ((s1 * 256 : Nat) : Int) by omega]; exact wrap_i64_nat _ (by omega), rfl⟩
        have b3 : a2 < 16777216 := by have := HA3.out; omega
        obtain ⟨s2, r4, HA4⟩ : ∃ a : Nat, IntKind.i64.wrap ((a2 : Int) + (y2 : Int)) = (a : Int) ∧ Hid (a = a2 + y2) := ⟨_, by rw [show (a2 : Int) + (y2 : Int) = ((a2 + y2 : Nat) : Int) by omega]; exact wrap_i64_nat _ (by omega), rfl⟩
        have b4 : s2 < 16777216 := by have := HA3.out; have := HA4.out; omega
        obtain ⟨a3, r5, HA5⟩ : ∃ a : Nat, IntKind.i64.wrap ((s2 : Int) * 256) = (a : Int) ∧ Hid (a = s2 * 256) := ⟨_, by rw [show (s2 : Int) * 256 = ((s2 * 256 : Nat) : Int) by omega]; exact wrap_i64_nat _ (by omega), rfl⟩
        have b5 : a3 < 4294967296 := by have := HA5.out; omega
        obtain ⟨c, r6, HA6⟩ : ∃ a : Nat, IntKind.i64.wrap ((a3 : Int) + (y3 : Int)) = (a : Int) ∧ Hid (a = a3 + y3) := ⟨_, by rw [show (a3 : Int) + (y3 : Int) = ((a3 + y3 : Nat) : Int) by omega]; exact wrap_i64_nat _ (by omega), rfl⟩
        have v0 := wrap_i64_nat y0 (by omega)
        have v1 := wrap_i64_nat y1 (by omega)
        have v2 := wrap_i64_nat y2 (by omega)
        have v3 := wrap_i64_nat y3 (by omega)
        have j0 : 4 * (k : Int) < 64 := by omega
        have k0 : (0 : Int) ≤ 4 * (k : Int) := by omega
        have k1 : (0 : Int) ≤ 4 * (k : Int) + 1 := by omega
        have k2 : (0 : Int) ≤ 4 * (k : Int) + 2 := by omega
        have k3 : (0 : Int) ≤ 4 * (k : Int) + 3 := by omega
        have t0 : (4 * (k : Int)).toNat = 4 * k := by omega
        have t1 : (4 * (k : Int) + 1).toNat = 4 * k + 1 := by omega
        have t2 : (4 * (k : Int) + 2).toNat = 4 * k + 2 := by omega
        have t3 : (4 * (k : Int) + 3).toNat = 4 * k + 3 := by omega
        have w0 : IntKind.i64.wrap (4 * (k : Int)) = 4 * (k : Int) := by rw [show 4 * (k : Int) = ((4 * k : Nat) : Int) by omega]; exact wrap_i64_nat _ (by omega)
        have w1 : IntKind.i64.wrap (4 * (k : Int) + 1) = 4 * (k : Int) + 1 := by rw [show 4 * (k : Int) + 1 = ((4 * k + 1 : Nat) : Int) by omega]; exact wrap_i64_nat _ (by omega)
        have w2 : IntKind.i64.wrap (4 * (k : Int) + 2) = 4 * (k : Int) + 2 := by rw [show 4 * (k : Int) + 2 = ((4 * k + 2 : Nat) : Int) by omega]; exact wrap_i64_nat _ (by omega)
        have w3 : IntKind.i64.wrap (4 * (k : Int) + 3) = 4 * (k : Int) + 3 := by rw [show 4 * (k : Int) + 3 = ((4 * k + 3 : Nat) : Int) by omega]; exact wrap_i64_nat _ (by omega)
        have j1 : 4 * (k : Int) + 1 < 64 := by omega
        have j2 : 4 * (k : Int) + 2 < 64 := by omega
        have j3 : 4 * (k : Int) + 3 < 64 := by omega
        go_wp2_with fail
        go_region_held3 (fun w' => w'.cell? ⟨bb, off + 4 * k, none⟩ = some (.int .u8 (y0 : Int)) ∧ w'.cell? ⟨bb, off + (4 * k + 1), none⟩ = some (.int .u8 (y1 : Int)) ∧ w'.cell? ⟨bb, off + (4 * k + 2), none⟩ = some (.int .u8 (y2 : Int)) ∧ w'.cell? ⟨bb, off + (4 * k + 3), none⟩ = some (.int .u8 (y3 : Int)))
          (first | go_keep | (go_split_ands; refine ⟨?_, ?_, ?_, ?_⟩ <;> (rw [hb1.cell (p := ⟨bb, _, none⟩) hbb]; assumption)))
          ((refine step_append_one i64v i64v_one (by rfl) _ _ 25 (by rfl) w.heap.size 3 i0 (.int .i64 0) 8 Tryd.underlying25 hi hz0 hz1 hz2 rfl _ W k HWl.out c (by rfl) (ho.step (below_one _ _).drew) wr.heap.size (by rfl) (by simp; rfl) (by omega) (by decide) (by simp; omega) ?_; intro g cap' w1 ho1 hb1 HKeep))
        have hB1 : Below w.heap.size w w1 := ((hB.alloc hz _).drew).trans hb1
        have HC : Hid (W ++ [c] = sch b (k + 1)) := by
          show _ = _
          rw [sch, ← HW.out, wordN, if_pos h16, HX0.out, HX1.out, HX2.out, HX3.out, HA6.out, HA5.out, HA4.out, HA3.out, HA2.out, HA1.out]
        clear HKeep
        go_wp2
        go_roundw
        case rel => exact ⟨k + 1, _, by omega, by go_num, ho1, HC, by show _ = _; rw [List.length_append, HWl.out]; rfl, hB1⟩
        case measure => simp [intOf]; omega
      · obtain ⟨g, cp, hv⟩ := Own.form ho (by intro h; have h2 := HWl.out; rw [List.map_eq_nil_iff.1 h] at h2; simp at h2; omega)
        rw [List.length_map, HWl.out] at hv
        subst hv
        obtain ⟨x, HX⟩ : ∃ x, Hid (W.getD (k - 15) 0 = x) := ⟨_, rfl⟩
        obtain ⟨y, HY⟩ : ∃ y, Hid (W.getD (k - 2) 0 = y) := ⟨_, rfl⟩
        obtain ⟨u, HU⟩ : ∃ u, Hid (W.getD (k - 16) 0 = u) := ⟨_, rfl⟩
        obtain ⟨v, HV⟩ : ∃ v, Hid (W.getD (k - 7) 0 = v) := ⟨_, rfl⟩
        have hlW : ∀ i, W.getD i 0 < 4294967296 := by intro i; rw [HW.out]; exact sch_getD _ _ _
        have hxl : x < 4294967296 := by rw [← HX.out]; exact hlW _
        have hyl : y < 4294967296 := by rw [← HY.out]; exact hlW _
        have hul : u < 4294967296 := by rw [← HU.out]; exact hlW _
        have hvl : v < 4294967296 := by rw [← HV.out]; exact hlW _
        clear hlW
        have c1 := OwnL.cellAt ho (k - 15) (by rw [HWl.out]; omega)
        have c2 := OwnL.cellAt ho (k - 2) (by rw [HWl.out]; omega)
        rw [HX.out] at c1; rw [HY.out] at c2
        have hk16 : (16 : Int) ≤ (k : Int) := by omega
        have hk64 : (k : Int) < 64 := by omega
        obtain ⟨S0, r0, HS0⟩ : ∃ a : Nat, bits .xor .i64 (bits .xor .i64 ((ror x 7 : Nat) : Int) ((ror x 18 : Nat) : Int)) ((x : Int) / 8) = (a : Int) ∧ Hid (a = sg0 x) := ⟨_, sg0_i64 hxl, rfl⟩
        obtain ⟨S1, r1, HS1⟩ : ∃ a : Nat, bits .xor .i64 (bits .xor .i64 ((ror y 17 : Nat) : Int) ((ror y 19 : Nat) : Int)) ((y : Int) / 1024) = (a : Int) ∧ Hid (a = sg1 y) := ⟨_, sg1_i64 hyl, rfl⟩
        have hS0l : S0 < 4294967296 := by rw [HS0.out]; exact sg0_lt hxl
        have hS1l : S1 < 4294967296 := by rw [HS1.out]; exact sg1_lt hyl
        go_wp2_with fail
        refine (turnN x 7 _ hxl (by decide) (by decide)).mono ?_
        rintro e w' ⟨rfl, m1, rfl⟩
        have ho := ho.step (below_drewN m1)
        have hB := hB.trans ((below_drewN m1).mono hz)
        have hz := hB.size
        clear c1 c2
        generalize wr.drewN m1 = wr at *
        go_wp2_with fail
        refine (turnN x 18 _ hxl (by decide) (by decide)).mono ?_
        rintro e w' ⟨rfl, m2, rfl⟩
        have ho := ho.step (below_drewN m2)
        have hB := hB.trans ((below_drewN m2).mono hz)
        have hz := hB.size
        generalize wr.drewN m2 = wr at *
        go_wp2_with fail
        refine (turnN y 17 _ hyl (by decide) (by decide)).mono ?_
        rintro e w' ⟨rfl, m3, rfl⟩
        have ho := ho.step (below_drewN m3)
        have hB := hB.trans ((below_drewN m3).mono hz)
        have hz := hB.size
        generalize wr.drewN m3 = wr at *
        go_wp2_with fail
        refine (turnN y 19 _ hyl (by decide) (by decide)).mono ?_
        rintro e w' ⟨rfl, m4, rfl⟩
        have ho := ho.step (below_drewN m4)
        have hB := hB.trans ((below_drewN m4).mono hz)
        have hz := hB.size
        generalize wr.drewN m4 = wr at *
        have c3 := OwnL.cellAt ho (k - 7) (by rw [HWl.out]; omega)
        have c4 := OwnL.cellAt ho (k - 16) (by rw [HWl.out]; omega)
        rw [HV.out] at c3; rw [HU.out] at c4
        obtain ⟨q1, p1, HQ1⟩ : ∃ a : Nat, IntKind.i64.wrap ((S1 : Int) + (v : Int)) = (a : Int) ∧ Hid (a = S1 + v) := ⟨_, by rw [show (S1 : Int) + (v : Int) = ((S1 + v : Nat) : Int) by omega]; exact wrap_i64_nat _ (by omega), rfl⟩
        have b1 : q1 < 8589934592 := by have := HQ1.out; omega
        obtain ⟨q2, p2, HQ2⟩ : ∃ a : Nat, IntKind.i64.wrap ((q1 : Int) + (S0 : Int)) = (a : Int) ∧ Hid (a = q1 + S0) := ⟨_, by rw [show (q1 : Int) + (S0 : Int) = ((q1 + S0 : Nat) : Int) by omega]; exact wrap_i64_nat _ (by omega), rfl⟩
        have b2 : q2 < 12884901888 := by have := HQ2.out; omega
        obtain ⟨q3, p3, HQ3⟩ : ∃ a : Nat, IntKind.i64.wrap ((q2 : Int) + (u : Int)) = (a : Int) ∧ Hid (a = q2 + u) := ⟨_, by rw [show (q2 : Int) + (u : Int) = ((q2 + u : Nat) : Int) by omega]; exact wrap_i64_nat _ (by omega), rfl⟩
        have b3 : q3 < 17179869184 := by have := HQ3.out; omega
        obtain ⟨c, p4, HQ4⟩ : ∃ a : Nat, (q3 : Int).tmod 4294967296 = (a : Int) ∧ Hid (a = q3 % 4294967296) := ⟨q3 % 4294967296, by rw [Int.tmod_eq_emod_of_nonneg (by omega)]; omega, rfl⟩
        have hkA : k - 7 < k := by omega
        have hkB : k - 16 < k := by omega
        have i1 : (k : Int) - 16 < 64 := by omega
        have i2 : (0 : Int) ≤ (k : Int) - 16 := by omega
        have i3 : ((k : Int) - 16).toNat = k - 16 := by omega
        have i4 : (k : Int) - 7 < (k : Int) := by omega
        have i5 : (0 : Int) ≤ (k : Int) - 7 := by omega
        have i6 : ((k : Int) - 7).toNat = k - 7 := by omega
        have i7 : IntKind.i64.wrap ((k : Int) - 16) = (k : Int) - 16 := by rw [show (k : Int) - 16 = ((k - 16 : Nat) : Int) by omega]; exact wrap_i64_nat _ (by omega)
        have i8 : IntKind.i64.wrap ((k : Int) - 7) = (k : Int) - 7 := by rw [show (k : Int) - 7 = ((k - 7 : Nat) : Int) by omega]; exact wrap_i64_nat _ (by omega)
        have i9 : (7 : Int) ≤ (k : Int) := by omega
        have i10 : (k : Int) - 16 < (k : Int) := by omega
        go_wp2_with fail
        go_region_held3 (fun w' => w'.cell? ⟨g, k - 7, none⟩ = some (.int .i64 (v : Int)) ∧ w'.cell? ⟨g, k - 16, none⟩ = some (.int .i64 (u : Int)))
          (first | go_keep | (go_split_ands; refine ⟨keep_cell HKeep _ hkA ?_, keep_cell HKeep _ hkB ?_⟩ <;> assumption))
          ((refine step_append_one i64v i64v_one (by rfl) _ _ 25 (by rfl) w.heap.size 3 i0 (.int .i64 0) 8 Tryd.underlying25 hi hz0 hz1 hz2 rfl _ W k HWl.out c (by rfl) (ho.step (below_one _ _).drew) wr.heap.size (by rfl) (by simp; rfl) (by omega) (by decide) (by simp; omega) ?_; intro g2 cap' w1 ho1 hb1 HKeep))
        have hB1 : Below w.heap.size w w1 := ((hB.alloc hz _).drew).trans hb1
        have HC : Hid (W ++ [c] = sch b (k + 1)) := by
          show _ = _
          rw [sch, ← HW.out, wordN, if_neg h16, HX.out, HY.out, HU.out, HV.out, HQ4.out, HQ3.out, HQ2.out, HQ1.out, HS0.out, HS1.out]
        clear HKeep
        go_wp2
        go_roundw
        case rel => exact ⟨k + 1, _, by omega, by go_num, ho1, HC, by show _ = _; rw [List.length_append, HWl.out]; rfl, hB1⟩
        case measure => simp [intOf]; omega
    · have HK : Hid (W = sch b N) := by show _ = _; rw [HW.out, HN.out, show k = 64 by omega]
      go_wp2
      go_ret
      exact ⟨_, rfl, by rw [← HK.out]; exact ho, hB⟩
theorem sched_walk (b : List UInt8) (bb off cap : Nat) (w : World) (hb : b.length = 64) (hBy : BytesAt w bb off b) (hbb : bb < w.heap.size) :
    Calls Tryd.prog 11 #[.slice (some ⟨bb, off, none⟩) 64 cap] w fun e w' => ∃ v, e = .returned v ∧ OwnL i64v w' w.heap.size v (sch b 64) ∧ Below w.heap.size w w' := sched_core b bb off cap 64 rfl w hb hBy hbb
end Go.Proofs.YtpboclnfjpofjaaDoor.Sha
