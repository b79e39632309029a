/- satchelkeep's pick and cut: a text in pieces. -/
import Derived.Test.YtmodongnganbfaaGreatDoorBaseToShaOwn
namespace Go.Proofs.YtmodongnganbfaaGreatDoor.Keep
open Go.RowKit Go.Proofs.YtmodongnganbfaaGreatDoor.Sha

theorem pick_walk (c : Int) (n : Nat) (w : World) (hc : -9223372036854775808 ≤ c) (hc2 : c ≤ 9223372036854775807) (hn : 0 < n) (hn2 : n ≤ 9223372036854775807) :
    Calls Tryz.prog 14 #[.int .i64 c, .int .i64 (n : Int)] w fun e w' => (∃ k : Nat, k < n ∧ e = .returned (.int .i64 (k : Int))) ∧ w' = w := by
  have hn0 : ((n : Int) == 0) = false := by simp; omega
  by_cases h : c < 0
  · obtain ⟨m, hm⟩ : ∃ m : Nat, c + 1 = -(m : Int) := ⟨(-(c + 1)).toNat, by omega⟩
    have HV : Hid (-((c + 1).tmod (n : Int)) = ((m % n : Nat) : Int)) := by
      show _ = _
      rw [hm, Int.neg_tmod, Int.neg_neg, Int.tmod_eq_emod_of_nonneg (Int.natCast_nonneg _)]
      rfl
    clear hm
    go_enter Tryz.func14, Tryz.ntmps14
    go_wp2
    go_ret
    exact ⟨⟨m % n, Nat.mod_lt _ hn, by rw [← HV.out]; rfl⟩, rfl⟩
  · obtain ⟨m, rfl⟩ : ∃ m : Nat, c = (m : Int) := ⟨c.toNat, by omega⟩
    go_enter Tryz.func14, Tryz.ntmps14
    go_wp2
    go_ret
    exact ⟨⟨m % n, Nat.mod_lt _ hn, rfl⟩, rfl⟩
def strv (b : ByteArray) : Value := .string b
theorem strv_one (c : ByteArray) : (strv c).oneCell' = true := rfl
theorem strInfo : (Tryz.prog.info? 9).map (fun i => (i.zero, i.size, i.bytes)) = some (some (.string ⟨#[]⟩), 1, 16) := by kernel_rfl
/-- Numbers that lie in memory behind a slice (a slice without any may be nil). -/
def RawAt (w : World) (ra : Option Addr) (n : Nat) : Prop := 0 < n → ∃ rb ro, ra = some ⟨rb, ro, none⟩ ∧ ∀ j, j < n → ∃ z : Int, -9223372036854775808 ≤ z ∧ z ≤ 9223372036854775807 ∧ w.cell? ⟨rb, ro + j, none⟩ = some (.int .i64 z)
theorem ext_list (s : ByteArray) (m k : Nat) : (s.extract m k).data.toList = (s.data.toList.drop m).take (k - m) := by
  rw [ByteArray.data_extract, Array.toList_extract, List.extract_eq_take_drop]
theorem parts_of (r : ByteArray) (m : Nat) : (r.extract 0 m).data.toList ++ (r.extract m r.size).data.toList = r.data.toList := by
  have hl : r.data.toList.length = r.size := by simp
  rw [ext_list, ext_list, List.drop_zero, Nat.sub_zero, List.take_of_length_le (i := r.size - m) (by rw [List.length_drop, hl]; exact Nat.le_refl _)]
  exact List.take_append_drop _ _
set_option maxRecDepth 100000 in
set_option maxHeartbeats 2000000 in
theorem cut_walk (s : ByteArray) (ra : Option Addr) (n cap : Nat) (w : World) (hs : s.size ≤ 140737488355328) (hn : n ≤ 1099511627776) (HR : Hid (RawAt w ra n)) :
    Calls Tryz.prog 8 #[.string s, .slice ra n cap] w fun e w' => ∃ v L, e = .returned v ∧ OwnL strv w' w.heap.size v L ∧ Hid ((L.map (·.data.toList)).flatten = s.data.toList ∧ L.length ≤ n + 1 ∧ 0 < L.length) ∧ Below w.heap.size w w' := by
  obtain ⟨i0, hi, hz0, hz1, hz2⟩ := info_parts strInfo
  go_enter Tryz.func8, Tryz.ntmps8
  go_wp2
  go_loopw [0, 5, 6] (fun x v i wr => ∃ (k : Nat) (r : ByteArray) (L : List ByteArray), k ≤ n ∧ i = .int .i64 k ∧ x = .string r ∧ OwnL strv wr w.heap.size v L ∧ Hid ((L.map (·.data.toList)).flatten ++ r.data.toList = s.data.toList ∧ L.length = k ∧ r.size ≤ s.size) ∧ Below w.heap.size w wr) (fun _ _ i _ => n - (intOf i).toNat)
  case atStart => exact ⟨0, s, [], by omega, rfl, rfl, Own.nil _ _, ⟨by simp, rfl, Nat.le_refl _⟩, Below.refl _ _⟩
  case round =>
    obtain ⟨k, r, L, hk, rfl, rfl, ho, HI, hB⟩ := hrel
    have hz := hB.size
    have hrs : r.size ≤ 140737488355328 := Nat.le_trans HI.out.2.2 hs
    by_cases hgo : k < n ∧ 0 < r.size
    · obtain ⟨hkn, hr0⟩ := hgo
      have hk1 : (k : Int) < (n : Int) := by omega
      have hr1 : (0 : Int) < (r.size : Int) := by omega
      obtain ⟨rb, ro, hra, hcell⟩ := HR.out (by omega)
      obtain ⟨z, z1, z2, hc0⟩ := hcell k hkn
      have hc : wr.cell? ⟨rb, ro + k, none⟩ = some (.int .i64 z) := cell_below hB hc0
      subst hra
      clear hcell hc0
      go_wp2_with fail
      refine (pick_walk z (r.size + 1) _ z1 z2 (by omega) (by omega)).mono ?_
      rintro e w' ⟨⟨m, hm, rfl⟩, rfl⟩
      obtain ⟨q, HQ⟩ : ∃ q, Hid (r.extract 0 m = q) := ⟨_, rfl⟩
      obtain ⟨r2, HR2⟩ : ∃ r2, Hid (r.extract m r.size = r2) := ⟨_, rfl⟩
      have hsl : ∀ wx, (Instr.slice 9 (.string r) none (some (.int .i64 (m : Int))) none).run Tryz.prog wx = .ok (.string q) wx := fun wx => by
        rw [run_slice_string_to_if wx 9 r .i64 (m : Int) Tryz.underlying9, if_pos ⟨by omega, by omega⟩, ← HQ.out]; rfl
      have hsl2 : ∀ wx, (Instr.slice 9 (.string r) (some (.int .i64 (m : Int))) none none).run Tryz.prog wx = .ok (.string r2) wx := fun wx => by
        rw [run_slice_string_from_if wx 9 r .i64 (m : Int) Tryz.underlying9, if_pos ⟨by omega, by omega⟩, ← HR2.out]; rfl
      have HI2 : Hid (((L ++ [q]).map (·.data.toList)).flatten ++ r2.data.toList = s.data.toList ∧ (L ++ [q]).length = k + 1 ∧ r2.size ≤ s.size) := by
        obtain ⟨i1, i2, i3⟩ := HI.out
        refine ⟨?_, by rw [List.length_append, i2]; rfl, ?_⟩
        · rw [← i1, ← parts_of r m, HQ.out, HR2.out]; simp
        · rw [← HR2.out, ByteArray.size_extract]; omega
      go_wp2_with (at_builtin; refine wpList_append_one strv strv_one rfl _ _ 33 rfl w.heap.size 9 i0 (.string ⟨#[]⟩) 16 Tryz.underlying33 hi hz0 hz1 hz2 rfl _ L k HI.out.2.1 q rfl (ho.step (below_one _ _)) w'.heap.size rfl (by rw [World.cell?_alloc_at _ _ _ _ rfl]; rfl) (by omega) (by decide) (by simp; omega) ?_)
      intro g' cap' w1 ho1 hb1
      have hB1 : Below w.heap.size w w1 := (hB.alloc hz _).trans hb1
      clear hb1 ho hB hc hsl hsl2
      go_wp2
      go_roundw
      case rel => exact ⟨k + 1, r2, _, by omega, by go_num, by rw [HR2.out], ho1, HI2, hB1⟩
      case measure => simp [intOf]; omega
    · by_cases hkn : k < n
      · have hk1 : (k : Int) < (n : Int) := by omega
        have hr0 : r.size = 0 := by omega
        have hr1 : ¬ (0 : Int) < (r.size : Int) := by omega
        clear hr0 hgo
        have HF : Hid (((L ++ [r]).map (·.data.toList)).flatten = s.data.toList ∧ (L ++ [r]).length ≤ n + 1 ∧ 0 < (L ++ [r]).length) := by
          obtain ⟨i1, i2, i3⟩ := HI.out
          refine ⟨by rw [← i1]; simp, by rw [List.length_append, i2]; simp; omega, by simp⟩
        go_wp2_with (at_builtin; refine wpList_append_one strv strv_one rfl _ _ 33 rfl w.heap.size 9 i0 (.string ⟨#[]⟩) 16 Tryz.underlying33 hi hz0 hz1 hz2 rfl _ L k HI.out.2.1 r rfl (ho.step (below_one _ _)) wr.heap.size rfl (by rw [World.cell?_alloc_at _ _ _ _ rfl]; rfl) (by omega) (by decide) (by simp; omega) ?_)
        intro g' cap' w1 ho1 hb1
        have hB1 : Below w.heap.size w w1 := (hB.alloc hz _).trans hb1
        clear hb1 ho hB
        go_wp2
        go_ret
        exact ⟨_, _, rfl, ho1, HF, hB1⟩
      · have hk1 : ¬ (k : Int) < (n : Int) := by omega
        clear hgo
        have HF : Hid (((L ++ [r]).map (·.data.toList)).flatten = s.data.toList ∧ (L ++ [r]).length ≤ n + 1 ∧ 0 < (L ++ [r]).length) := by
          obtain ⟨i1, i2, i3⟩ := HI.out
          refine ⟨by rw [← i1]; simp, by rw [List.length_append, i2]; simp; omega, by simp⟩
        go_wp2_with (at_builtin; refine wpList_append_one strv strv_one rfl _ _ 33 rfl w.heap.size 9 i0 (.string ⟨#[]⟩) 16 Tryz.underlying33 hi hz0 hz1 hz2 rfl _ L k HI.out.2.1 r rfl (ho.step (below_one _ _)) wr.heap.size rfl (by rw [World.cell?_alloc_at _ _ _ _ rfl]; rfl) (by omega) (by decide) (by simp; omega) ?_)
        intro g' cap' w1 ho1 hb1
        have hB1 : Below w.heap.size w w1 := (hB.alloc hz _).trans hb1
        clear hb1 ho hB
        go_wp2
        go_ret
        exact ⟨_, _, rfl, ho1, HF, hB1⟩
end Go.Proofs.YtmodongnganbfaaGreatDoor.Keep
