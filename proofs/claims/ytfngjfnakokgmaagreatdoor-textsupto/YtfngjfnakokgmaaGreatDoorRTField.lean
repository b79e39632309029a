/- The document's own field. -/
import Derived.Test.YtfngjfnakokgmaaGreatDoorRTVal
namespace Go.Proofs.YtfngjfnakokgmaaGreatDoor.Txt
open Go.RowKit Go.Proofs.YtfngjfnakokgmaaGreatDoor.Sha
/-- A block of three cells that may be written. -/
structure Res3 (B : Nat) (w : World) : Prop where
  f : ∀ o, w.frozen? ⟨B, o, none⟩ = false
  c0 : ∃ v, w.cell? ⟨B, 0, none⟩ = some v
  c1 : ∃ v, w.cell? ⟨B, 1, none⟩ = some v
  c2 : ∃ v, w.cell? ⟨B, 2, none⟩ = some v
theorem Res3.below {B : Nat} {w w' : World} (h : Res3 B w) (hb : Below w.heap.size w w') : Res3 B w' := by
  obtain ⟨v0, e0⟩ := h.c0
  obtain ⟨v1, e1⟩ := h.c1
  obtain ⟨v2, e2⟩ := h.c2
  have hl : B < w.heap.size := Go.Proofs.YtfngjfnakokgmaaGreatDoor.lt_of_cell e0
  exact ⟨fun o => by rw [hb.frozen (p := ⟨B, o, none⟩) hl]; exact h.f o, ⟨v0, Go.Proofs.YtfngjfnakokgmaaGreatDoor.cell_below hb e0⟩, ⟨v1, Go.Proofs.YtfngjfnakokgmaaGreatDoor.cell_below hb e1⟩, ⟨v2, Go.Proofs.YtfngjfnakokgmaaGreatDoor.cell_below hb e2⟩⟩
theorem res3_new (w : World) (a b c : Value) (t : TypeId) : Res3 w.heap.size (w.alloc (.cells #[a, b, c] t)) := ⟨fun o => by simp, ⟨a, by simp⟩, ⟨b, by simp⟩, ⟨c, by simp⟩⟩
theorem below_set3 {B : Nat} {w w' : World} (h : Below B w w') (k : Nat) (hk : B ≤ k) (a b c : Value) : Below B w (((w'.setCell ⟨k, 0, none⟩ a).setCell ⟨k, 1, none⟩ b).setCell ⟨k, 2, none⟩ c) :=
  ((h.setCell (p := ⟨k, 0, none⟩) hk _).setCell (p := ⟨k, 1, none⟩) hk _).setCell (p := ⟨k, 2, none⟩) hk _
/-- A field as the document's Pair. -/
def pairV (n : Bytes) (b : Bool) (v : Bytes) : Value := .agg #[.string ⟨n.toArray⟩, .string ⟨v.toArray⟩, .bool b]
/-- How the document's field ends. -/
def RF (s : ByteArray) (a : Nat) (e : Ending) : Prop :=
  (∃ (n t r : Bytes) (b : Bool) (a' : Nat), field (s.data.toList.drop a) = some ((n, if b then some t else none), r) ∧ e = .returned (.tuple #[pairV n b t, .int .i64 (a' : Int), .bool true]) ∧ a' ≤ s.size ∧ s.data.toList.drop a' = r ∧ n.length ≤ s.size ∧ t.length ≤ s.size ∧ (b = false → t = [])) ∨
  (field (s.data.toList.drop a) = none ∧ ∃ (n t : Bytes) (b : Bool) (a' : Nat), e = .returned (.tuple #[pairV n b t, .int .i64 (a' : Int), .bool false]) ∧ a' ≤ s.size)
theorem field_q {l : Bytes} (h : quoted l = none) : field l = none := by unfold field; rw [h]; rfl
theorem field_m {l t r : Bytes} (h : quoted l = some (t, r)) (h2 : ∀ c u, skip r = c :: u → c ≠ 58) : field l = none := by
  unfold field mark
  rw [h, Option.bind_some]
  cases hs : skip r with
  | nil => simp [want]
  | cons c u => simp [want, h2 c u hs]
theorem field_v {l t r u : Bytes} (h : quoted l = some (t, r)) (h2 : skip r = 58 :: u) : field l = (value (skip u)).map fun q => ((t, q.1), skip q.2) := by
  unfold field mark
  rw [h, Option.bind_some, h2, want, if_pos rfl]
  rfl
set_option maxHeartbeats 1000000 in
theorem rfield_walk (s : ByteArray) (a : Nat) (w : World) (ha : a ≤ s.size) (hs : s.size ≤ 1048576) :
    Calls Tryz.prog 26 #[.string s, .int .i64 (a : Int)] w fun e w' => RF s a e ∧ Below w.heap.size w w' := by
  have hs' : s.size ≤ 140737488355328 := by omega
  obtain ⟨B, HB⟩ : ∃ B, Hid (w.heap.size = B) := ⟨_, rfl⟩
  have hbA := below_one w (.cells #[.string ⟨#[]⟩, .string ⟨#[]⟩, .bool false] 55)
  have hRA := res3_new w (.string ⟨#[]⟩) (.string ⟨#[]⟩) (.bool false) 55
  rw [HB.out] at hRA
  go_enter Tryz.func26, Tryz.ntmps26
  go_wp2_with fail
  rw [HB.out]
  refine (rquoted_walk s a _ ha (by omega)).mono ?_
  rintro e w1 ⟨he, hb1⟩
  have hR1 := hRA.below hb1
  have hB1 : Below w.heap.size w w1 := hbA.trans (hb1.mono (by simp))
  have hz1 := hB1.size
  clear hbA hRA hb1
  rcases he with ⟨t, r, a', hq, rfl, ha', hr, ht⟩ | ⟨hq, rfl⟩
  · have HQ : Hid (quoted (s.data.toList.drop a) = some (t, s.data.toList.drop a')) := by rw [hr]; exact hq
    clear hq hr
    go_wp2_with fail
    refine (rskip_walk s a' _ ha' hs').mono ?_
    rintro e w' ⟨⟨k, rfl, hk, hkr⟩, rfl⟩
    have HK : Hid (skip (s.data.toList.drop a') = s.data.toList.drop k) := hkr.symm
    clear hkr
    by_cases hkl : k < s.size
    · have hge : ¬ (s.size : Int) ≤ (k : Int) := by omega
      by_cases h58 : s[k] = 58
      · have t58 := u8_nno 58 58 rfl h58
        have HV : Hid (field (s.data.toList.drop a) = (value (skip (s.data.toList.drop (k + 1)))).map fun q => ((t, q.1), skip q.2)) := field_v HQ.out (by rw [HK.out, drop_cons s k hkl, h58])
        have hk1 : (k : Int) + 1 = ((k + 1 : Nat) : Int) := by omega
        have HK1 : Hid ((k : Int) + 1 = ((k + 1 : Nat) : Int)) := hk1
        clear h58 hk1
        go_wp2_with fail
        rw [HK1.out]
        refine (rskip_walk s (k + 1) _ (by omega) hs').mono ?_
        rintro e w' ⟨⟨m, rfl, hm, hmr⟩, rfl⟩
        have HM : Hid (s.data.toList.drop m = skip (s.data.toList.drop (k + 1))) := hmr
        clear hmr
        go_wp2_with fail
        refine (rvalue_walk s m _ hm hs).mono ?_
        rintro e w2 ⟨hv, hb2⟩
        have hR2 := hR1.below hb2
        have hB2 : Below w.heap.size w w2 := hB1.trans (hb2.mono hz1)
        have hz2 := hB2.size
        clear hR1 hb2
        rcases hv with ⟨b, tv, rv, av, hv, rfl, hav, hrv, htv, hb0⟩ | ⟨hv, av, rfl, hav⟩
        · rw [HM.out] at hv
          go_wp2_with fail
          refine (rskip_walk s av _ hav hs').mono ?_
          rintro e w' ⟨⟨j, rfl, hj, hjr⟩, rfl⟩
          have HF : Hid (RF s a (.returned (.tuple #[pairV t b tv, .int .i64 (j : Int), .bool true]))) := Or.inl ⟨t, tv, skip rv, b, j, by rw [HV.out, hv]; rfl, rfl, hj, by rw [hjr, hrv], ht, htv, hb0⟩
          obtain ⟨v0, r0⟩ := hR2.c0
          obtain ⟨v1, r1⟩ := hR2.c1
          obtain ⟨v2, r2⟩ := hR2.c2
          have rf := hR2.f
          clear hv hrv hjr hb0 hR2
          go_wp2
          refine bodyPost_ret (v := .tuple #[pairV t b tv, .int .i64 (j : Int), .bool true]) (by simp [results, Tryz.results26, go_sem, r0, r1, r2, pairV]) rfl ⟨HF.out, below_set3 hB2 _ (by rw [HB.out]; exact Nat.le_refl _) _ _ _⟩
        · rw [HM.out] at hv
          go_wp2_with fail
          refine (rskip_walk s av _ hav hs').mono ?_
          rintro e w' ⟨⟨j, rfl, hj, hjr⟩, rfl⟩
          have HF : Hid (RF s a (.returned (.tuple #[pairV t false [], .int .i64 (j : Int), .bool false]))) := Or.inr ⟨by rw [HV.out, hv]; rfl, t, [], false, j, rfl, hj⟩
          obtain ⟨v0, r0⟩ := hR2.c0
          obtain ⟨v1, r1⟩ := hR2.c1
          obtain ⟨v2, r2⟩ := hR2.c2
          have rf := hR2.f
          clear hv hjr hR2
          go_wp2
          refine bodyPost_ret (v := .tuple #[pairV t false [], .int .i64 (j : Int), .bool false]) (by simp [results, Tryz.results26, go_sem, r0, r1, r2, pairV]) rfl ⟨HF.out, below_set3 hB2 _ (by rw [HB.out]; exact Nat.le_refl _) _ _ _⟩
      · have t58 := u8_nyes 58 58 rfl h58
        have HF : Hid (RF s a (.returned (.tuple #[pairV [] false [], .int .i64 (a : Int), .bool false]))) := Or.inr ⟨field_m HQ.out (fun c u hc => by
          rw [HK.out, drop_cons s k hkl] at hc
          injection hc with hc _
          rw [← hc]; exact h58), [], [], false, a, rfl, ha⟩
        obtain ⟨v0, r0⟩ := hR1.c0
        obtain ⟨v1, r1⟩ := hR1.c1
        obtain ⟨v2, r2⟩ := hR1.c2
        have rf := hR1.f
        clear h58 hR1
        go_wp2
        refine bodyPost_ret (v := .tuple #[pairV [] false [], .int .i64 (a : Int), .bool false]) (by simp [results, Tryz.results26, go_sem, r0, r1, r2, pairV]) rfl ⟨HF.out, below_set3 hB1 _ (by rw [HB.out]; exact Nat.le_refl _) _ _ _⟩
    · have hge : (s.size : Int) ≤ (k : Int) := by omega
      have HF : Hid (RF s a (.returned (.tuple #[pairV [] false [], .int .i64 (a : Int), .bool false]))) := Or.inr ⟨field_m HQ.out (fun c u hc => by
          rw [HK.out, drop_end s k (by omega)] at hc
          cases hc), [], [], false, a, rfl, ha⟩
      obtain ⟨v0, r0⟩ := hR1.c0
      obtain ⟨v1, r1⟩ := hR1.c1
      obtain ⟨v2, r2⟩ := hR1.c2
      have rf := hR1.f
      clear hR1
      go_wp2
      refine bodyPost_ret (v := .tuple #[pairV [] false [], .int .i64 (a : Int), .bool false]) (by simp [results, Tryz.results26, go_sem, r0, r1, r2, pairV]) rfl ⟨HF.out, below_set3 hB1 _ (by rw [HB.out]; exact Nat.le_refl _) _ _ _⟩
  · have HF : Hid (RF s a (.returned (.tuple #[pairV [] false [], .int .i64 (a : Int), .bool false]))) := Or.inr ⟨field_q hq, [], [], false, a, rfl, ha⟩
    obtain ⟨v0, r0⟩ := hR1.c0
    obtain ⟨v1, r1⟩ := hR1.c1
    obtain ⟨v2, r2⟩ := hR1.c2
    have rf := hR1.f
    clear hq hR1
    go_wp2
    refine bodyPost_ret (v := .tuple #[pairV [] false [], .int .i64 (a : Int), .bool false]) (by simp [results, Tryz.results26, go_sem, r0, r1, r2, pairV]) rfl ⟨HF.out, below_set3 hB1 _ (by rw [HB.out]; exact Nat.le_refl _) _ _ _⟩
end Go.Proofs.YtfngjfnakokgmaaGreatDoor.Txt
