/- The document's own object. -/
import Derived.Test.YtfngjfnakokgmaaGreatDoorRTPair
namespace Go.Proofs.YtfngjfnakokgmaaGreatDoor.Txt
open Go.RowKit Go.Proofs.YtfngjfnakokgmaaGreatDoor.Sha
theorem str_same (a b : Bytes) : ((⟨a.toArray⟩ : ByteArray).toList == (⟨b.toArray⟩ : ByteArray).toList) = (a == b) := by
  rw [ByteArray.toList_eq, ByteArray.toList_eq]
/-- What the loop over the fields keeps. -/
def RORel (s : ByteArray) (w : World) (at_ l : Value) (wr : World) : Prop :=
  ∃ (p : Nat) (had : Fields), at_ = .int .i64 (p : Int) ∧ p ≤ s.size ∧ PairsAt wr w.heap.size l had ∧ Below w.heap.size w wr ∧ had.length ≤ p ∧ object s.data.toList = (fields (s.data.toList.drop p).length had (s.data.toList.drop p)).bind ended ∧ Small s had
theorem ro_none {s : ByteArray} {w w' : World} (hb : Below w.heap.size w w') (h : object s.data.toList = none) : RO s w (.returned (.tuple #[.slice none 0 0, .bool false])) w' :=
  ⟨hb, Or.inr ⟨h, [], _, rfl, pairs_nil _ _, Nat.zero_le _, small_nil _⟩⟩
/-- The field that was read last, where the call keeps it. -/
structure PCell (P : Nat) (n t : Bytes) (b : Bool) (w : World) : Prop where
  c0 : w.cell? ⟨P, 0, none⟩ = some (.string ⟨n.toArray⟩)
  c1 : w.cell? ⟨P, 1, none⟩ = some (.string ⟨t.toArray⟩)
  c2 : w.cell? ⟨P, 2, none⟩ = some (.bool b)
/-- What the loop that looks for the name keeps. -/
def IRel (w : World) (P : Nat) (had : Fields) (n t : Bytes) (b : Bool) (l i : Value) (wx : World) : Prop :=
  ∃ k : Nat, i = .int .i64 (k : Int) ∧ k ≤ had.length ∧ (∀ j (hj : j < had.length), j < k → had[j].1 ≠ n) ∧ PairsAt wx w.heap.size l had ∧ Below w.heap.size w wx ∧ PCell P n t b wx
theorem cells_pair (w : World) (a b c : Value) (t : TypeId) : ∀ j u, [a, b, c][j]? = some u → (w.alloc (.cells #[a, b, c] t)).cell? ((⟨w.heap.size, 0, none⟩ : Addr).add j) = some u := by
  intro j u hj
  match j, hj with
  | 0, hj => simp at hj; subst hj; simp [Addr.add]
  | 1, hj => simp at hj; subst hj; simp [Addr.add]
  | 2, hj => simp at hj; subst hj; simp [Addr.add]
set_option maxRecDepth 100000 in
set_option maxHeartbeats 2000000 in
theorem robject_walk (s : ByteArray) (w : World) (hs : s.size ≤ 1048576) :
    Calls Tryz.prog 14 #[.string s] w fun e w' => RO s w e w' := by
  have hs' : s.size ≤ 140737488355328 := by omega
  obtain ⟨i0, hi, hz0, hz1, hz2⟩ := info_parts pairInfo
  go_enter Tryz.func14, Tryz.ntmps14
  go_wp2_with fail
  refine (rskip_walk s 0 _ (Nat.zero_le _) hs').mono ?_
  rintro e w' ⟨⟨a0, rfl, ha0, hd0⟩, rfl⟩
  have HD0 : Hid (skip s.data.toList = s.data.toList.drop a0) := by show _ = _; rw [hd0]; rfl
  clear hd0
  by_cases hl0 : a0 < s.size
  · have hge0 : ¬ (s.size : Int) ≤ (a0 : Int) := by omega
    by_cases h123 : s[a0] = 123
    · have t123 := u8_nno 123 123 rfl h123
      have HM0 : Hid (mark 123 s.data.toList = some (skip (s.data.toList.drop (a0 + 1)))) := by
        show _ = _
        unfold mark
        rw [HD0.out, drop_cons s a0 hl0, want, if_pos h123]; rfl
      have HK1 : Hid ((a0 : Int) + 1 = ((a0 + 1 : Nat) : Int)) := by show _ = _; omega
      clear h123
      go_wp2_with fail
      rw [HK1.out]
      refine (rskip_walk s (a0 + 1) _ (by omega) hs').mono ?_
      rintro e w' ⟨⟨a1, rfl, ha1, hd1⟩, rfl⟩
      have HM1 : Hid (mark 123 s.data.toList = some (s.data.toList.drop a1)) := by show _ = _; rw [HM0.out, hd1]
      clear hd1 HM0
      by_cases hb : ∃ h : a1 < s.size, s[a1] = 125
      · obtain ⟨hl1, h125⟩ := hb
        have hlt1 : (a1 : Int) < (s.size : Int) := by omega
        have t125 := u8_yes 125 125 rfl h125
        have HO : Hid (object s.data.toList = if skip (s.data.toList.drop (a1 + 1)) = [] then some [] else none) := by
          show _ = _
          unfold object
          rw [HM1.out, Option.bind_some, drop_cons s a1 hl1]
          simp only [if_pos h125]
        have HK2 : Hid ((a1 : Int) + 1 = ((a1 + 1 : Nat) : Int)) := by show _ = _; omega
        clear h125
        go_wp2_with fail
        rw [HK2.out]
        refine (rskip_walk s (a1 + 1) _ (by omega) hs').mono ?_
        rintro e w' ⟨⟨a2, rfl, ha2, hd2⟩, rfl⟩
        by_cases he : a2 = s.size
        · have te : ((a2 : Int) == (s.size : Int)) = true := by rw [he]; simp
          have HF : Hid (RO s w' (.returned (.tuple #[.slice none 0 0, .bool true])) w') := ⟨Below.refl _ _, Or.inl ⟨[], _, by rw [HO.out, if_pos (by rw [← hd2, he]; exact drop_end s _ (Nat.le_refl _))], rfl, pairs_nil _ _, Nat.zero_le _, small_nil _⟩⟩
          clear he hd2
          go_wp2
          go_ret2
          exact HF.out
        · have te : ((a2 : Int) == (s.size : Int)) = false := by simp; omega
          have HF : Hid (RO s w' (.returned (.tuple #[.slice none 0 0, .bool false])) w') := ro_none (Below.refl _ _) (by
            rw [HO.out, if_neg]
            rw [← hd2, drop_cons s a2 (by omega)]
            intro e; cases e)
          clear he hd2
          go_wp2
          go_ret2
          exact HF.out
      · have HR0 : Hid (RORel s w' (.int .i64 (a1 : Int)) (.slice none 0 0) w') := by
          refine ⟨a1, [], rfl, ha1, pairs_nil _ _, Below.refl _ _, Nat.zero_le _, ?_, small_nil _⟩
          unfold object
          rw [HM1.out, Option.bind_some]
          rcases Nat.lt_or_ge a1 s.size with hl1 | hl1
          · rw [drop_cons s a1 hl1]
            simp only [if_neg (fun e => hb ⟨hl1, e⟩)]
            rfl
          · rw [drop_end s a1 hl1]; rfl
        have hT : (∃ h : a1 < s.size, ((s[a1].toNat : Int) == 125) = false) ∨ ¬ a1 < s.size := by
          by_cases hl1 : a1 < s.size
          · exact Or.inl ⟨hl1, u8_no 125 125 rfl (fun e => hb ⟨hl1, e⟩)⟩
          · exact Or.inr hl1
        clear hb
        rcases hT with ⟨hl1, t125⟩ | hl1
        · have hlt1 : (a1 : Int) < (s.size : Int) := by omega
          go_wp2
          go_loopw [4, 5] (fun x l wr => RORel s w' x l wr) (fun x _ _ => s.size - (intOf x).toNat)
          case atStart => exact HR0.out
          case round =>
            clear HR0
            obtain ⟨p, had, rfl, hp, hP, hB, hhl, hO, hSm⟩ := hrel
            have HSm : Hid (Small s had) := hSm
            clear hSm
            obtain ⟨ao, cap, rfl⟩ := pairs_slice hP
            have HP : Hid (PairsAt wr w'.heap.size (.slice ao had.length cap) had) := hP
            have HO : Hid (object s.data.toList = (fields (s.data.toList.drop p).length had (s.data.toList.drop p)).bind ended) := hO
            have hzr := hB.size
            clear hP hO
            go_wp2_with fail
            refine (rfield_walk s p wr hp hs).mono ?_
            rintro e w2 ⟨hf, hb2⟩
            have hB2 : Below w'.heap.size w' w2 := hB.trans (hb2.mono hzr)
            have HP2 : Hid (PairsAt w2 w'.heap.size (.slice ao had.length cap) had) := Go.Proofs.YtfngjfnakokgmaaGreatDoor.own_below HP.out hb2
            have hzB := hB2.size
            clear hb2 HP hB
            rcases hf with ⟨n, t, r, b, a', hfd, rfl, ha', hr, hn, ht, hb0⟩ | ⟨hfd, n, t, b, a', rfl, ha'⟩
            · obtain ⟨q, HQ⟩ : ∃ q : Bytes × Option Bytes, Hid ((n, if b then some t else none) = q) := ⟨_, rfl⟩
              have HSq : Hid (Small s (had ++ [q])) := by rw [← HQ.out]; exact HSm.out.snoc ht
              have HQc : Hid (fcell q = [.string ⟨n.toArray⟩, .string ⟨t.toArray⟩, .bool b]) := by rw [← HQ.out]; exact fcell_of hb0
              have hpa : p < a' := drop_lt (s := s) (by rw [hr]; exact field_lt hfd)
              have HS : Hid (object s.data.toList = if had.any (fun x => x.1 == n) then none else (behind (had ++ [q]) (s.data.toList.drop a')).bind ended) := by
                show _ = _
                rw [HO.out, fields_step, hfd, Option.bind_some, hr, ← HQ.out]
                dsimp only
                split
                · rfl
                · rfl
              clear hfd hr hb0 HO HQ
              obtain ⟨w3, HW3⟩ : ∃ w3, Hid (w2.alloc (.cells #[.string ⟨n.toArray⟩, .string ⟨t.toArray⟩, .bool b] 55) = w3) := ⟨_, rfl⟩
              obtain ⟨P, HPb⟩ : ∃ P, Hid (w2.heap.size = P) := ⟨_, rfl⟩
              have hP3 : PairsAt w3 w'.heap.size (.slice ao had.length cap) had := by rw [← HW3.out]; exact HP2.out.alloc _
              have hB3 : Below w'.heap.size w' w3 := by rw [← HW3.out]; exact hB2.alloc hzB _
              have hC3 : PCell P n t b w3 := by rw [← HW3.out, ← HPb.out]; exact ⟨by simp, by simp, by simp⟩
              clear HP2 hB2
              unfold pairV
              by_cases hl : a' < s.size
              · have hge : ¬ (s.size : Int) ≤ (a' : Int) := by omega
                go_wp2
                rw [HW3.out, HPb.out]
                go_loopw [9] (fun i wx => IRel w' P had n t b (.slice ao had.length cap) i wx) (fun i _ => had.length - (intOf i).toNat)
                case atStart => exact ⟨0, rfl, Nat.zero_le _, fun j _ h => absurd h (Nat.not_lt_zero _), hP3, hB3, hC3⟩
                case round =>
                  clear hP3 hB3 hC3
                  obtain ⟨k, rfl, hk, hne, hP3, hB3, hC3⟩ := hrel
                  have HNe : Hid (∀ j (hj : j < had.length), j < k → had[j].1 ≠ n) := hne
                  clear hne
                  have hzx := hB3.size
                  by_cases hkl : k < had.length
                  · have hkl' : (k : Int) < (had.length : Int) := by omega
                    obtain ⟨g, cap', hv, hgl, hcap, hcs⟩ := pairs_at hP3 (by omega)
                    obtain ⟨c0, _, _⟩ := hcs k hkl
                    injection hv with hv1 hv2 hv3
                    subst hv1 hv3
                    obtain ⟨m, hm⟩ : ∃ m, m = had[k].1 := ⟨_, rfl⟩
                    rw [← hm] at c0
                    have HM : Hid (m = had[k].1) := hm
                    have HP3 : Hid (PairsAt _ w'.heap.size (.slice (some ⟨g, 0, none⟩) had.length cap) had) := hP3
                    have HC3 : Hid (PCell P n t b _) := hC3
                    have d0 := hC3.c0
                    clear hm hv2 hcs hP3 hC3
                    by_cases heq : m = n
                    · have t1 : (m == n) = true := by simp [heq]
                      have HF : ∀ wz, Below w'.heap.size w' wz → RO s w' (.returned (.tuple #[.slice none 0 0, .bool false])) wz := fun wz hz => ro_none hz (by
                        rw [HS.out, any_true hkl (by rw [← HM.out]; exact heq), if_pos rfl])
                      have HF' : Hid (∀ wz, Below w'.heap.size w' wz → RO s w' (.returned (.tuple #[.slice none 0 0, .bool false])) wz) := HF
                      clear heq HF
                      go_wp2_with fail
                      go_quiet (fail)
                      go_wp2
                      go_ret2
                      exact HF'.out _ (hB3.trans ⟨rfl, rfl, rfl, Nat.le_refl _, fun _ _ => rfl⟩)
                    · have t1 : (m == n) = false := by simpa using heq
                      have HN2 : Hid (∀ j (hj : j < had.length), j < k + 1 → had[j].1 ≠ n) := fun j hj hj1 => by
                        by_cases e : j = k
                        · subst e; rw [← HM.out]; exact heq
                        · exact HNe.out j hj (by omega)
                      clear heq
                      go_wp2_with fail
                      go_quiet (fail)
                      go_wp2
                      go_roundw
                      case rel => exact ⟨k + 1, by go_num, by omega, HN2.out, HP3.out, hB3.trans ⟨rfl, rfl, rfl, Nat.le_refl _, fun _ _ => rfl⟩, ⟨HC3.out.c0, HC3.out.c1, HC3.out.c2⟩⟩
                      case measure => simp [intOf]; omega
                  · have hkl' : ¬ (k : Int) < (had.length : Int) := by omega
                    have HS2 : Hid (object s.data.toList = (behind (had ++ [q]) (s.data.toList.drop a')).bind ended) := by
                      show _ = _
                      rw [HS.out, any_false (fun j hj => HNe.out j hj (by omega)), if_neg (by decide)]
                    have HDr : Hid (s.data.toList.drop a' = s[a'] :: s.data.toList.drop (a' + 1)) := drop_cons s a' hl
                    obtain ⟨d0, d1, d2⟩ := hC3
                    clear HS HNe
                    go_wp2_with (at_builtin; refine wpList_append_own _ rfl _ _ 51 rfl w'.heap.size 55 i0 (.agg #[.string ⟨#[]⟩, .string ⟨#[]⟩, .bool false]) 3 40 Tryz.underlying51 hi hz0 hz1 hz2 rfl (by decide) _ _ _ rfl (hP3.alloc _) ⟨_, 0, none⟩ 1 1 [.string ⟨n.toArray⟩, .string ⟨t.toArray⟩, .bool b] rfl rfl (cells_pair _ _ _ _ _) (by intro u hu; simp at hu; rcases hu with rfl | rfl | rfl <;> rfl) (by unfold maxLen; omega) (by omega) (by simp; omega) ?_)
                    intro v' w5 hown' hgrow _
                    have hB5 : Below w'.heap.size w' w5 := (hB3.alloc hzx _).grown hgrow (by simp; omega) (fun j hj => (hP3.lt j hj).1)
                    have HP5 : Hid (PairsAt w5 w'.heap.size v' (had ++ [q])) := by
                      show World.ownsRow _ _ _ _ _ _ _
                      rw [List.length_append, List.flatMap_append, List.flatMap_singleton, HQc.out]
                      exact hown'
                    have HLen : Hid ((had ++ [q]).length ≤ a') := by show _ ≤ _; rw [List.length_append]; simp; omega
                    have HLs : Hid ((had ++ [q]).length ≤ s.size) := by show _ ≤ _; rw [List.length_append]; simp; omega
                    clear hgrow hown' hP3 hB3 d0 d1 d2
                    obtain ⟨had', HH'⟩ : ∃ h, Hid (had ++ [q] = h) := ⟨_, rfl⟩
                    rw [HH'.out] at HP5 HLen HS2 HLs HSq
                    by_cases h125 : s[a'] = 125
                    · have t125 := u8_yes 125 125 rfl h125
                      have HO2 : Hid (object s.data.toList = ended (had', skip (s.data.toList.drop (a' + 1)))) := by show _ = _; rw [HS2.out, HDr.out, behind, h125, if_neg (by decide), if_pos rfl]; rfl
                      have HK2 : Hid ((a' : Int) + 1 = ((a' + 1 : Nat) : Int)) := by show _ = _; omega
                      clear h125
                      go_wp2_with fail
                      rw [HK2.out]
                      refine (rskip_walk s (a' + 1) _ (by omega) hs').mono ?_
                      rintro e wz ⟨⟨a2, rfl, ha2, hd2⟩, rfl⟩
                      by_cases he : a2 = s.size
                      · have te : ((a2 : Int) == (s.size : Int)) = true := by rw [he]; simp
                        have HF : Hid (RO s w' (.returned (.tuple #[v', .bool true])) wz) := ⟨hB5, Or.inl ⟨had', _, by rw [HO2.out, ended, if_pos (by rw [← hd2, he]; exact drop_end s _ (Nat.le_refl _))], rfl, HP5.out, HLs.out, HSq.out⟩⟩
                        clear he hd2
                        go_wp2
                        go_ret2
                        exact HF.out
                      · have te : ((a2 : Int) == (s.size : Int)) = false := by simp; omega
                        have HF : Hid (RO s w' (.returned (.tuple #[v', .bool false])) wz) := ⟨hB5, Or.inr ⟨(by
                          rw [HO2.out, ended, if_neg]
                          rw [← hd2, drop_cons s a2 (by omega)]
                          intro e; cases e), had', _, rfl, HP5.out, HLs.out, HSq.out⟩⟩
                        clear he hd2
                        go_wp2
                        go_ret2
                        exact HF.out
                    · have t125 := u8_no 125 125 rfl h125
                      by_cases h44 : s[a'] = 44
                      · have t44 := u8_yes 44 44 rfl h44
                        have HO2 : Hid (object s.data.toList = (fields (skip (s.data.toList.drop (a' + 1))).length had' (skip (s.data.toList.drop (a' + 1)))).bind ended) := by show _ = _; rw [HS2.out, HDr.out, behind, h44, if_pos rfl]
                        have HK2 : Hid ((a' : Int) + 1 = ((a' + 1 : Nat) : Int)) := by show _ = _; omega
                        clear h125 h44
                        go_wp2_with fail
                        rw [HK2.out]
                        refine (rskip_walk s (a' + 1) _ (by omega) hs').mono ?_
                        rintro e wz ⟨⟨a2, rfl, ha2, hd2⟩, rfl⟩
                        have hlt2 : a' < a2 := drop_lt (s := s) (by
                          rw [hd2, HDr.out]
                          have q1 := skip_le (s.data.toList.drop (a' + 1))
                          rw [List.length_cons]; omega)
                        have HF : Hid (RORel s w' (.int .i64 (a2 : Int)) v' wz) := ⟨a2, had', rfl, ha2, HP5.out, hB5, by have := HLen.out; omega, by rw [hd2]; exact HO2.out, HSq.out⟩
                        clear hd2
                        go_wp2
                        go_roundw
                        case rel => exact HF.out
                        case measure => simp [intOf]; omega
                      · have t44 := u8_no 44 44 rfl h44
                        have HF : Hid (RO s w' (.returned (.tuple #[.slice none 0 0, .bool false])) w5) := ro_none hB5 (by rw [HS2.out, HDr.out, behind, if_neg h44, if_neg h125]; rfl)
                        clear h125 h44
                        go_wp2
                        go_ret2
                        exact HF.out
              · have hge : (s.size : Int) ≤ (a' : Int) := by omega
                have HF : Hid (RO s w' (.returned (.tuple #[.slice none 0 0, .bool false])) w3) := ro_none hB3 (by
                  rw [HS.out, drop_end s a' (by omega)]
                  split <;> rfl)
                go_wp2
                rw [HW3.out]
                go_ret2
                exact HF.out
            · have HF : Hid (RO s w' (.returned (.tuple #[.slice none 0 0, .bool false])) (w2.alloc (.cells #[.string ⟨n.toArray⟩, .string ⟨t.toArray⟩, .bool b] 55))) := ro_none (hB2.alloc hzB _) (by rw [HO.out, fields_step, hfd]; rfl)
              clear hfd
              unfold pairV
              go_wp2
              go_ret2
              exact HF.out
        · have hlt1 : ¬ (a1 : Int) < (s.size : Int) := by omega
          go_wp2
          go_loopw [4, 5] (fun x l wr => RORel s w' x l wr) (fun x _ _ => s.size - (intOf x).toNat)
          case atStart => exact HR0.out
          case round =>
            clear HR0
            obtain ⟨p, had, rfl, hp, hP, hB, hhl, hO, hSm⟩ := hrel
            have HSm : Hid (Small s had) := hSm
            clear hSm
            obtain ⟨ao, cap, rfl⟩ := pairs_slice hP
            have HP : Hid (PairsAt wr w'.heap.size (.slice ao had.length cap) had) := hP
            have HO : Hid (object s.data.toList = (fields (s.data.toList.drop p).length had (s.data.toList.drop p)).bind ended) := hO
            have hzr := hB.size
            clear hP hO
            go_wp2_with fail
            refine (rfield_walk s p wr hp hs).mono ?_
            rintro e w2 ⟨hf, hb2⟩
            have hB2 : Below w'.heap.size w' w2 := hB.trans (hb2.mono hzr)
            have HP2 : Hid (PairsAt w2 w'.heap.size (.slice ao had.length cap) had) := Go.Proofs.YtfngjfnakokgmaaGreatDoor.own_below HP.out hb2
            have hzB := hB2.size
            clear hb2 HP hB
            rcases hf with ⟨n, t, r, b, a', hfd, rfl, ha', hr, hn, ht, hb0⟩ | ⟨hfd, n, t, b, a', rfl, ha'⟩
            · obtain ⟨q, HQ⟩ : ∃ q : Bytes × Option Bytes, Hid ((n, if b then some t else none) = q) := ⟨_, rfl⟩
              have HSq : Hid (Small s (had ++ [q])) := by rw [← HQ.out]; exact HSm.out.snoc ht
              have HQc : Hid (fcell q = [.string ⟨n.toArray⟩, .string ⟨t.toArray⟩, .bool b]) := by rw [← HQ.out]; exact fcell_of hb0
              have hpa : p < a' := drop_lt (s := s) (by rw [hr]; exact field_lt hfd)
              have HS : Hid (object s.data.toList = if had.any (fun x => x.1 == n) then none else (behind (had ++ [q]) (s.data.toList.drop a')).bind ended) := by
                show _ = _
                rw [HO.out, fields_step, hfd, Option.bind_some, hr, ← HQ.out]
                dsimp only
                split
                · rfl
                · rfl
              clear hfd hr hb0 HO HQ
              obtain ⟨w3, HW3⟩ : ∃ w3, Hid (w2.alloc (.cells #[.string ⟨n.toArray⟩, .string ⟨t.toArray⟩, .bool b] 55) = w3) := ⟨_, rfl⟩
              obtain ⟨P, HPb⟩ : ∃ P, Hid (w2.heap.size = P) := ⟨_, rfl⟩
              have hP3 : PairsAt w3 w'.heap.size (.slice ao had.length cap) had := by rw [← HW3.out]; exact HP2.out.alloc _
              have hB3 : Below w'.heap.size w' w3 := by rw [← HW3.out]; exact hB2.alloc hzB _
              have hC3 : PCell P n t b w3 := by rw [← HW3.out, ← HPb.out]; exact ⟨by simp, by simp, by simp⟩
              clear HP2 hB2
              unfold pairV
              by_cases hl : a' < s.size
              · have hge : ¬ (s.size : Int) ≤ (a' : Int) := by omega
                go_wp2
                rw [HW3.out, HPb.out]
                go_loopw [9] (fun i wx => IRel w' P had n t b (.slice ao had.length cap) i wx) (fun i _ => had.length - (intOf i).toNat)
                case atStart => exact ⟨0, rfl, Nat.zero_le _, fun j _ h => absurd h (Nat.not_lt_zero _), hP3, hB3, hC3⟩
                case round =>
                  clear hP3 hB3 hC3
                  obtain ⟨k, rfl, hk, hne, hP3, hB3, hC3⟩ := hrel
                  have HNe : Hid (∀ j (hj : j < had.length), j < k → had[j].1 ≠ n) := hne
                  clear hne
                  have hzx := hB3.size
                  by_cases hkl : k < had.length
                  · have hkl' : (k : Int) < (had.length : Int) := by omega
                    obtain ⟨g, cap', hv, hgl, hcap, hcs⟩ := pairs_at hP3 (by omega)
                    obtain ⟨c0, _, _⟩ := hcs k hkl
                    injection hv with hv1 hv2 hv3
                    subst hv1 hv3
                    obtain ⟨m, hm⟩ : ∃ m, m = had[k].1 := ⟨_, rfl⟩
                    rw [← hm] at c0
                    have HM : Hid (m = had[k].1) := hm
                    have HP3 : Hid (PairsAt _ w'.heap.size (.slice (some ⟨g, 0, none⟩) had.length cap) had) := hP3
                    have HC3 : Hid (PCell P n t b _) := hC3
                    have d0 := hC3.c0
                    clear hm hv2 hcs hP3 hC3
                    by_cases heq : m = n
                    · have t1 : (m == n) = true := by simp [heq]
                      have HF : ∀ wz, Below w'.heap.size w' wz → RO s w' (.returned (.tuple #[.slice none 0 0, .bool false])) wz := fun wz hz => ro_none hz (by
                        rw [HS.out, any_true hkl (by rw [← HM.out]; exact heq), if_pos rfl])
                      have HF' : Hid (∀ wz, Below w'.heap.size w' wz → RO s w' (.returned (.tuple #[.slice none 0 0, .bool false])) wz) := HF
                      clear heq HF
                      go_wp2_with fail
                      go_quiet (fail)
                      go_wp2
                      go_ret2
                      exact HF'.out _ (hB3.trans ⟨rfl, rfl, rfl, Nat.le_refl _, fun _ _ => rfl⟩)
                    · have t1 : (m == n) = false := by simpa using heq
                      have HN2 : Hid (∀ j (hj : j < had.length), j < k + 1 → had[j].1 ≠ n) := fun j hj hj1 => by
                        by_cases e : j = k
                        · subst e; rw [← HM.out]; exact heq
                        · exact HNe.out j hj (by omega)
                      clear heq
                      go_wp2_with fail
                      go_quiet (fail)
                      go_wp2
                      go_roundw
                      case rel => exact ⟨k + 1, by go_num, by omega, HN2.out, HP3.out, hB3.trans ⟨rfl, rfl, rfl, Nat.le_refl _, fun _ _ => rfl⟩, ⟨HC3.out.c0, HC3.out.c1, HC3.out.c2⟩⟩
                      case measure => simp [intOf]; omega
                  · have hkl' : ¬ (k : Int) < (had.length : Int) := by omega
                    have HS2 : Hid (object s.data.toList = (behind (had ++ [q]) (s.data.toList.drop a')).bind ended) := by
                      show _ = _
                      rw [HS.out, any_false (fun j hj => HNe.out j hj (by omega)), if_neg (by decide)]
                    have HDr : Hid (s.data.toList.drop a' = s[a'] :: s.data.toList.drop (a' + 1)) := drop_cons s a' hl
                    obtain ⟨d0, d1, d2⟩ := hC3
                    clear HS HNe
                    go_wp2_with (at_builtin; refine wpList_append_own _ rfl _ _ 51 rfl w'.heap.size 55 i0 (.agg #[.string ⟨#[]⟩, .string ⟨#[]⟩, .bool false]) 3 40 Tryz.underlying51 hi hz0 hz1 hz2 rfl (by decide) _ _ _ rfl (hP3.alloc _) ⟨_, 0, none⟩ 1 1 [.string ⟨n.toArray⟩, .string ⟨t.toArray⟩, .bool b] rfl rfl (cells_pair _ _ _ _ _) (by intro u hu; simp at hu; rcases hu with rfl | rfl | rfl <;> rfl) (by unfold maxLen; omega) (by omega) (by simp; omega) ?_)
                    intro v' w5 hown' hgrow _
                    have hB5 : Below w'.heap.size w' w5 := (hB3.alloc hzx _).grown hgrow (by simp; omega) (fun j hj => (hP3.lt j hj).1)
                    have HP5 : Hid (PairsAt w5 w'.heap.size v' (had ++ [q])) := by
                      show World.ownsRow _ _ _ _ _ _ _
                      rw [List.length_append, List.flatMap_append, List.flatMap_singleton, HQc.out]
                      exact hown'
                    have HLen : Hid ((had ++ [q]).length ≤ a') := by show _ ≤ _; rw [List.length_append]; simp; omega
                    have HLs : Hid ((had ++ [q]).length ≤ s.size) := by show _ ≤ _; rw [List.length_append]; simp; omega
                    clear hgrow hown' hP3 hB3 d0 d1 d2
                    obtain ⟨had', HH'⟩ : ∃ h, Hid (had ++ [q] = h) := ⟨_, rfl⟩
                    rw [HH'.out] at HP5 HLen HS2 HLs HSq
                    by_cases h125 : s[a'] = 125
                    · have t125 := u8_yes 125 125 rfl h125
                      have HO2 : Hid (object s.data.toList = ended (had', skip (s.data.toList.drop (a' + 1)))) := by show _ = _; rw [HS2.out, HDr.out, behind, h125, if_neg (by decide), if_pos rfl]; rfl
                      have HK2 : Hid ((a' : Int) + 1 = ((a' + 1 : Nat) : Int)) := by show _ = _; omega
                      clear h125
                      go_wp2_with fail
                      rw [HK2.out]
                      refine (rskip_walk s (a' + 1) _ (by omega) hs').mono ?_
                      rintro e wz ⟨⟨a2, rfl, ha2, hd2⟩, rfl⟩
                      by_cases he : a2 = s.size
                      · have te : ((a2 : Int) == (s.size : Int)) = true := by rw [he]; simp
                        have HF : Hid (RO s w' (.returned (.tuple #[v', .bool true])) wz) := ⟨hB5, Or.inl ⟨had', _, by rw [HO2.out, ended, if_pos (by rw [← hd2, he]; exact drop_end s _ (Nat.le_refl _))], rfl, HP5.out, HLs.out, HSq.out⟩⟩
                        clear he hd2
                        go_wp2
                        go_ret2
                        exact HF.out
                      · have te : ((a2 : Int) == (s.size : Int)) = false := by simp; omega
                        have HF : Hid (RO s w' (.returned (.tuple #[v', .bool false])) wz) := ⟨hB5, Or.inr ⟨(by
                          rw [HO2.out, ended, if_neg]
                          rw [← hd2, drop_cons s a2 (by omega)]
                          intro e; cases e), had', _, rfl, HP5.out, HLs.out, HSq.out⟩⟩
                        clear he hd2
                        go_wp2
                        go_ret2
                        exact HF.out
                    · have t125 := u8_no 125 125 rfl h125
                      by_cases h44 : s[a'] = 44
                      · have t44 := u8_yes 44 44 rfl h44
                        have HO2 : Hid (object s.data.toList = (fields (skip (s.data.toList.drop (a' + 1))).length had' (skip (s.data.toList.drop (a' + 1)))).bind ended) := by show _ = _; rw [HS2.out, HDr.out, behind, h44, if_pos rfl]
                        have HK2 : Hid ((a' : Int) + 1 = ((a' + 1 : Nat) : Int)) := by show _ = _; omega
                        clear h125 h44
                        go_wp2_with fail
                        rw [HK2.out]
                        refine (rskip_walk s (a' + 1) _ (by omega) hs').mono ?_
                        rintro e wz ⟨⟨a2, rfl, ha2, hd2⟩, rfl⟩
                        have hlt2 : a' < a2 := drop_lt (s := s) (by
                          rw [hd2, HDr.out]
                          have q1 := skip_le (s.data.toList.drop (a' + 1))
                          rw [List.length_cons]; omega)
                        have HF : Hid (RORel s w' (.int .i64 (a2 : Int)) v' wz) := ⟨a2, had', rfl, ha2, HP5.out, hB5, by have := HLen.out; omega, by rw [hd2]; exact HO2.out, HSq.out⟩
                        clear hd2
                        go_wp2
                        go_roundw
                        case rel => exact HF.out
                        case measure => simp [intOf]; omega
                      · have t44 := u8_no 44 44 rfl h44
                        have HF : Hid (RO s w' (.returned (.tuple #[.slice none 0 0, .bool false])) w5) := ro_none hB5 (by rw [HS2.out, HDr.out, behind, if_neg h44, if_neg h125]; rfl)
                        clear h125 h44
                        go_wp2
                        go_ret2
                        exact HF.out
              · have hge : (s.size : Int) ≤ (a' : Int) := by omega
                have HF : Hid (RO s w' (.returned (.tuple #[.slice none 0 0, .bool false])) w3) := ro_none hB3 (by
                  rw [HS.out, drop_end s a' (by omega)]
                  split <;> rfl)
                go_wp2
                rw [HW3.out]
                go_ret2
                exact HF.out
            · have HF : Hid (RO s w' (.returned (.tuple #[.slice none 0 0, .bool false])) (w2.alloc (.cells #[.string ⟨n.toArray⟩, .string ⟨t.toArray⟩, .bool b] 55))) := ro_none (hB2.alloc hzB _) (by rw [HO.out, fields_step, hfd]; rfl)
              clear hfd
              unfold pairV
              go_wp2
              go_ret2
              exact HF.out
    · have t123 := u8_nyes 123 123 rfl h123
      have HF : Hid (RO s w' (.returned (.tuple #[.slice none 0 0, .bool false])) w') := ro_none (Below.refl _ _) (by
        unfold object mark
        rw [HD0.out, drop_cons s a0 hl0, want, if_neg h123]; rfl)
      clear h123
      go_wp2
      go_ret2
      exact HF.out
  · have hge0 : (s.size : Int) ≤ (a0 : Int) := by omega
    have HF : Hid (RO s w' (.returned (.tuple #[.slice none 0 0, .bool false])) w') := ro_none (Below.refl _ _) (by
        unfold object mark
        rw [HD0.out, drop_end s a0 (by omega)]; rfl)
    go_wp2
    go_ret2
    exact HF.out
end Go.Proofs.YtfngjfnakokgmaaGreatDoor.Txt
