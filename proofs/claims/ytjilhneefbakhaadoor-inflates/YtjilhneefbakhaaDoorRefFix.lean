/- The document's fixed codes. -/
import Derived.Test.YtjilhneefbakhaaDoorRefOwn
namespace Go.Proofs.YtjilhneefbakhaaDoor.Inf
open Go.RowKit Go.Proofs.YtjilhneefbakhaaDoor.Sha

theorem take_more (L : List Nat) (k x : Nat) (h : L[k]? = some x) : L.take (k + 1) = L.take k ++ [x] := by
  have hk := List.getElem?_eq_some_iff.1 h
  rw [← List.take_append_getElem hk.1, hk.2]
section
variable {w : World}
set_option maxRecDepth 100000 in
set_option maxHeartbeats 4000000 in
theorem fixR_walk (FN FD : List Nat) (HFN : Hid (FN = fixN)) (HFD : Hid (FD = fixD)) :
    Calls Tryd.prog 24 #[] w fun e w' => ∃ v1 v2, e = .returned (.tuple #[v1, v2]) ∧ Below w.heap.size w w' ∧ OwnL nv w' w.heap.size v1 FN ∧ OwnL nv w' w.heap.size v2 FD := by
  have HN2 : Hid (FN.length = 288) := by rw [HFN.out]; exact fixN_len
  have HD2 : Hid (FD.length = 32) := by rw [HFD.out]; exact fixD_len
  obtain ⟨i0, hi, hz0, hz1, hz2⟩ := info_parts intInfo
  go_enter Tryd.func24, Tryd.ntmps24
  go_wp2
  go_loopw [2, 3] (fun v i wr => ∃ k : Nat, k ≤ 288 ∧ i = .int .i64 (k : Int) ∧ Below w.heap.size w wr ∧ OwnL nv wr w.heap.size v (FN.take k)) (fun _ i _ => 288 - (intOf i).toNat)
  case atStart => exact ⟨0, by omega, rfl, Below.refl _ _, Own.nil _ _⟩
  case round =>
    obtain ⟨k, hk, rfl, hB, hO⟩ := hrel
    by_cases hlt : k < 288
    · have hlt' : (k : Int) < 288 := by omega
      obtain ⟨A, HA⟩ : ∃ A, Hid (FN.take k = A) := ⟨_, rfl⟩
      have HAl : Hid (A.length = k) := by show _ = _; rw [← HA.out, List.length_take, HN2.out]; omega
      rw [HA.out] at hO
      have hws := hB.size
      by_cases h1 : 144 ≤ k
      · have h1' : (144 : Int) ≤ (k : Int) := by omega
        by_cases h2 : k < 256
        · have h2' : (k : Int) < 256 := by omega
          have HT1 : Hid (FN.take (k + 1) = A ++ [9]) := by rw [take_more FN k 9 (by rw [HFN.out, fixN_get k hlt]; rw [if_neg (by omega), if_pos h2]), HA.out]; rfl
          go_wp2_with (at_builtin; refine wpList_append_one nv nv_one rfl _ _ 29 rfl w.heap.size 3 i0 (.int .i64 0) 8 Tryd.underlying29 hi hz0 hz1 hz2 rfl _ A k HAl.out 9 rfl (hO.step (below_one _ _)) wr.heap.size rfl (by rw [World.cell?_alloc_at _ _ _ _ rfl]; rfl) (by omega) (by decide) (by simp; omega) ?_)
          intro g' cap' w8 ho8 hb8
          have hB8 : Below w.heap.size w w8 := (hB.trans ((below_one wr _).mono hB.size)).trans hb8
          clear hO hb8 hB
          go_wp2
          go_roundw
          case rel => exact ⟨k + 1, by omega, by go_num, hB8, by rw [HT1.out]; exact ho8⟩
          case measure => simp [intOf]; omega
        · have h2' : ¬ (k : Int) < 256 := by omega
          have h3' : (256 : Int) ≤ (k : Int) := by omega
          by_cases h4 : k < 280
          · have h4' : (k : Int) < 280 := by omega
            have HT1 : Hid (FN.take (k + 1) = A ++ [7]) := by rw [take_more FN k 7 (by rw [HFN.out, fixN_get k hlt]; rw [if_neg (by omega), if_neg h2, if_pos h4]), HA.out]; rfl
            go_wp2_with (at_builtin; refine wpList_append_one nv nv_one rfl _ _ 29 rfl w.heap.size 3 i0 (.int .i64 0) 8 Tryd.underlying29 hi hz0 hz1 hz2 rfl _ A k HAl.out 7 rfl (hO.step (below_one _ _)) wr.heap.size rfl (by rw [World.cell?_alloc_at _ _ _ _ rfl]; rfl) (by omega) (by decide) (by simp; omega) ?_)
            intro g' cap' w8 ho8 hb8
            have hB8 : Below w.heap.size w w8 := (hB.trans ((below_one wr _).mono hB.size)).trans hb8
            clear hO hb8 hB
            go_wp2
            go_roundw
            case rel => exact ⟨k + 1, by omega, by go_num, hB8, by rw [HT1.out]; exact ho8⟩
            case measure => simp [intOf]; omega
          · have h4' : ¬ (k : Int) < 280 := by omega
            have HT1 : Hid (FN.take (k + 1) = A ++ [8]) := by rw [take_more FN k 8 (by rw [HFN.out, fixN_get k hlt]; rw [if_neg (by omega), if_neg h2, if_neg h4]), HA.out]; rfl
            go_wp2_with (at_builtin; refine wpList_append_one nv nv_one rfl _ _ 29 rfl w.heap.size 3 i0 (.int .i64 0) 8 Tryd.underlying29 hi hz0 hz1 hz2 rfl _ A k HAl.out 8 rfl (hO.step (below_one _ _)) wr.heap.size rfl (by rw [World.cell?_alloc_at _ _ _ _ rfl]; rfl) (by omega) (by decide) (by simp; omega) ?_)
            intro g' cap' w8 ho8 hb8
            have hB8 : Below w.heap.size w w8 := (hB.trans ((below_one wr _).mono hB.size)).trans hb8
            clear hO hb8 hB
            go_wp2
            go_roundw
            case rel => exact ⟨k + 1, by omega, by go_num, hB8, by rw [HT1.out]; exact ho8⟩
            case measure => simp [intOf]; omega
      · have h1' : ¬ (144 : Int) ≤ (k : Int) := by omega
        have h3' : ¬ (256 : Int) ≤ (k : Int) := by omega
        have HT1 : Hid (FN.take (k + 1) = A ++ [8]) := by rw [take_more FN k 8 (by rw [HFN.out, fixN_get k hlt]; rw [if_pos (by omega)]), HA.out]; rfl
        go_wp2_with (at_builtin; refine wpList_append_one nv nv_one rfl _ _ 29 rfl w.heap.size 3 i0 (.int .i64 0) 8 Tryd.underlying29 hi hz0 hz1 hz2 rfl _ A k HAl.out 8 rfl (hO.step (below_one _ _)) wr.heap.size rfl (by rw [World.cell?_alloc_at _ _ _ _ rfl]; rfl) (by omega) (by decide) (by simp; omega) ?_)
        intro g' cap' w8 ho8 hb8
        have hB8 : Below w.heap.size w w8 := (hB.trans ((below_one wr _).mono hB.size)).trans hb8
        clear hO hb8 hB
        go_wp2
        go_roundw
        case rel => exact ⟨k + 1, by omega, by go_num, hB8, by rw [HT1.out]; exact ho8⟩
        case measure => simp [intOf]; omega
    · have hlt' : ¬ (k : Int) < 288 := by omega
      have hk288 : k = 288 := by omega
      have hA : FN.take k = FN := List.take_of_length_le (by rw [HN2.out]; omega)
      rw [hA] at hO
      have HO1 : Hid (OwnL nv wr w.heap.size u2 FN) := hO
      have HB1 : Hid (Below w.heap.size w wr) := hB
      clear hA hk288 hk hlt hO hB
      obtain ⟨W1, hW1⟩ : ∃ W1, W1 = wr := ⟨_, rfl⟩
      subst hW1
      go_wp2
      go_loopw [4, 5] (fun v i wx => ∃ j : Nat, j ≤ 32 ∧ i = .int .i64 (j : Int) ∧ Below W1.heap.size W1 wx ∧ OwnL nv wx W1.heap.size v (FD.take j)) (fun _ i _ => 32 - (intOf i).toNat)
      case atStart => exact ⟨0, by omega, rfl, Below.refl _ _, Own.nil _ _⟩
      case round =>
        obtain ⟨j, hj, rfl, hB, hO⟩ := hrel
        by_cases hlt2 : j < 32
        · have hlt2' : (j : Int) < 32 := by omega
          obtain ⟨A, HA⟩ : ∃ A, Hid (FD.take j = A) := ⟨_, rfl⟩
          have HAl : Hid (A.length = j) := by show _ = _; rw [← HA.out, List.length_take, HD2.out]; omega
          rw [HA.out] at hO
          have hws := hB.size
          have HT1 : Hid (FD.take (j + 1) = A ++ [5]) := by rw [take_more FD j 5 (by rw [HFD.out]; exact fixD_get j hlt2), HA.out]; rfl
          go_wp2_with (at_builtin; refine wpList_append_one nv nv_one rfl _ _ 29 rfl W1.heap.size 3 i0 (.int .i64 0) 8 Tryd.underlying29 hi hz0 hz1 hz2 rfl _ A j HAl.out 5 rfl (hO.step (below_one _ _)) wr.heap.size rfl (by rw [World.cell?_alloc_at _ _ _ _ rfl]; rfl) (by omega) (by decide) (by simp; omega) ?_)
          intro g' cap' w8 ho8 hb8
          have hB8 : Below W1.heap.size W1 w8 := (hB.trans ((below_one wr _).mono hB.size)).trans hb8
          clear hO hb8 hB
          go_wp2
          go_roundw
          case rel => exact ⟨j + 1, by omega, by go_num, hB8, by rw [HT1.out]; exact ho8⟩
          case measure => simp [intOf]; omega
        · have hlt2' : ¬ (j : Int) < 32 := by omega
          have hA : FD.take j = FD := List.take_of_length_le (by rw [HD2.out]; omega)
          rw [hA] at hO
          have HF : Hid (Below w.heap.size w wr ∧ OwnL nv wr w.heap.size u2 FN ∧ OwnL nv wr w.heap.size u4 FD) := by
            have hsz := HB1.out.size
            refine ⟨HB1.out.trans (hB.mono hsz), HO1.out.step hB, ?_⟩
            rcases hO with h1 | ⟨g, cap, q1, q2, q3⟩
            · exact .inl h1
            · exact .inr ⟨g, cap, q1, Nat.le_trans hsz q2, q3⟩
          clear hA hj hlt2 hO hB HO1 HB1
          go_wp2
          go_ret2
          exact ⟨_, _, rfl, HF.out⟩
end
end Go.Proofs.YtjilhneefbakhaaDoor.Inf
