/- Replies: the document's smaller, trimmed, made, few. -/
import Derived.Test.YtmodongnganbfaaGreatDoorRdG
import Derived.Lib.Strings
import Derived.Lib.IndexBytes
namespace Go.Proofs.YtmodongnganbfaaGreatDoor.Rep
open Go.RowKit Go.Proofs.YtmodongnganbfaaGreatDoor Go.Proofs.YtmodongnganbfaaGreatDoor.Sha
/-- Is a text made of these bytes alone, of one at least? -/
def madeB (l o : List UInt8) : Bool := l.all (hasB o) && !l.isEmpty
theorem made_walk (s o : ByteArray) (w : World) (hs : s.size ≤ 1099511627776) (ho : o.size ≤ 1099511627776) :
    Calls Tryz.prog 71 #[.string s, .string o] w fun e w' => e = .returned (.bool (madeB s.data.toList o.data.toList)) ∧ w' = w := by
  go_enter Tryz.func71, Tryz.ntmps71
  go_wp2
  go_loop [5] (fun i => ∃ k : Nat, k ≤ s.size ∧ i = .int .i64 k ∧ Hid ((s.data.toList.take k).all (hasB o.data.toList) = true)) (fun i => s.size - (intOf i).toNat)
  case atStart => exact ⟨0, Nat.zero_le _, rfl, rfl⟩
  case round =>
    obtain ⟨k, hk, rfl, HN⟩ := hrel
    by_cases hlt : k < s.size
    · have HT : Hid (s.data.toList.take (k + 1) = s.data.toList.take k ++ [s[k]]) := take_snoc s k hlt
      go_wp2_with fail
      refine (among_walk s[k] o _ ho).mono ?_
      rintro e w' ⟨rfl, rfl⟩
      by_cases hc : hasB o.data.toList s[k] = true
      · have HN' : Hid ((s.data.toList.take (k + 1)).all (hasB o.data.toList) = true) := by
          show _ = _
          rw [HT.out, List.all_append, HN.out]
          simp only [List.all_cons, List.all_nil, Bool.and_true, Bool.true_and]
          exact hc
        rw [hc]
        clear hc
        go_wp2
        go_round
        case rel => exact ⟨k + 1, by omega, by go_num, HN'⟩
        case measure => simp [intOf]; omega
      · have hc : hasB o.data.toList s[k] = false := by simpa using hc
        have HR : Hid (madeB s.data.toList o.data.toList = false) := by
          show _ = _
          have : s.data.toList.all (hasB o.data.toList) = false := by
            rw [← Bool.not_eq_true]
            intro h
            have := List.all_eq_true.1 h s[k] (List.getElem_mem (l := s.data.toList) (n := k) (by rw [size_len]; exact hlt))
            rw [hc] at this
            cases this
          rw [madeB, this]; rfl
        rw [hc]
        clear hc
        go_wp2
        go_ret
        exact ⟨by rw [HR.out]; rfl, rfl⟩
    · have HR : Hid (madeB s.data.toList o.data.toList = decide ((0 : Int) < (s.size : Int))) := by
        show _ = _
        have ht : s.data.toList.take k = s.data.toList := List.take_of_length_le (by rw [size_len]; omega)
        have ha := HN.out
        rw [ht] at ha
        rw [madeB, ha, Bool.true_and, Bool.eq_iff_iff]
        simp only [Bool.not_eq_true', List.isEmpty_eq_false_iff, decide_eq_true_eq]
        rw [← size_len]
        constructor
        · intro h; have := List.length_pos_iff.2 h; omega
        · intro h e; rw [e] at h; simp at h
      go_wp2
      go_ret
      exact ⟨by rw [HR.out]; simp, rfl⟩

theorem ba_ext {a b : ByteArray} (h : a.data.toList = b.data.toList) : a = b := ByteArray.ext (Array.toList_inj.1 h)
theorem extract_list (s : ByteArray) (m k : Nat) : (s.extract m k).data.toList = (s.data.toList.drop m).take (k - m) := by
  rw [Lib.extract_data]
theorem extract_one (s : ByteArray) (k : Nat) (h : k < s.size) : s.extract k (k + 1) = ⟨#[s[k]]⟩ := by
  apply ba_ext
  rw [extract_list, drop_at s k h, show k + 1 - k = 1 by omega]
  rfl
def capBytes : List UInt8 := [65, 66, 67, 68, 69, 70, 71, 72, 73, 74, 75, 76, 77, 78, 79, 80, 81, 82, 83, 84, 85, 86, 87, 88, 89, 90]
theorem cap_has (c : UInt8) : hasB capBytes c = isCapital c := by
  have all : ∀ n : Fin 256, hasB capBytes (UInt8.ofNat n.val) = isCapital (UInt8.ofNat n.val) := by decide +kernel
  have h := all ⟨c.toNat, c.toNat_lt⟩
  simpa using h
theorem cap_add {c : UInt8} (h : isCapital c = true) : (c + 32).toNat = c.toNat + 32 := by
  have all : ∀ n : Fin 256, isCapital (UInt8.ofNat n.val) = true → ((UInt8.ofNat n.val) + 32).toNat = (UInt8.ofNat n.val).toNat + 32 := by decide +kernel
  have q := all ⟨c.toNat, c.toNat_lt⟩
  simp only [UInt8.ofNat_toNat] at q
  exact q h
theorem smaller_snoc (l : Bytes) (c : UInt8) : smaller (l ++ [c]) = smaller l ++ [small c] := by simp [smaller]
set_option maxHeartbeats 1000000 in
theorem smaller_walk (s : ByteArray) (w : World) (hs : s.size ≤ 1099511627776) :
    Calls Tryz.prog 38 #[.string s] w fun e w' => e = .returned (.string ⟨(smaller s.data.toList).toArray⟩) ∧ Below w.heap.size w w' := by
  go_enter Tryz.func38, Tryz.ntmps38
  go_wp2
  go_loopw [3, 4] (fun o i wr => ∃ (k : Nat) (acc : List UInt8), k ≤ s.size ∧ i = .int .i64 k ∧ o = .string ⟨acc.toArray⟩ ∧ Hid (acc = smaller (s.data.toList.take k)) ∧ acc.length ≤ k ∧ Below w.heap.size w wr) (fun _ i _ => s.size - (intOf i).toNat)
  case atStart => exact ⟨0, [], Nat.zero_le _, rfl, rfl, rfl, by simp, Below.refl _ _⟩
  case round =>
    obtain ⟨k, acc, hk, rfl, rfl, HA, hal, hB⟩ := hrel
    have hzr := hB.size
    by_cases hlt : k < s.size
    · have HT : Hid (s.data.toList.take (k + 1) = s.data.toList.take k ++ [s[k]]) := take_snoc s k hlt
      by_cases hc : isCapital s[k] = true
      · have hc' := hc
        simp only [isCapital, Bool.and_eq_true, decide_eq_true_eq] at hc'
        obtain ⟨hc1, hc2⟩ := hc'
        have HC : Hid (acc ++ [s[k] + 32] = smaller (s.data.toList.take (k + 1))) := by
          show _ = _
          rw [HT.out, HA.out, smaller_snoc, small, if_pos hc]
        have HCap : Hid (hasB capBytes s[k] = true) := by show _ = _; rw [cap_has]; exact hc
        have a2 := add_byte acc (s[k] + 32) (by omega)
        have hv : ((s[k] + 32).toNat : Int) = (s[k].toNat : Int) + 32 := by rw [cap_add hc]; omega
        have cv := fun (wx : World) => conv_byte (wx.alloc (.cells #[.int .u8 ((s[k].toNat : Int) + 32)] 5)) wx.heap.size (s[k] + 32) (by rw [hv]; simp)
        clear hc hv
        go_wp2_with fail
        refine (among_walk s[k] _ _ (by decide)).mono ?_
        rintro e w' ⟨he, rfl⟩
        have he' : e = .returned (.bool true) := by rw [he]; exact congrArg (fun b => Ending.returned (.bool b)) HCap.out
        clear he
        subst he'
        go_wp2
        go_roundw
        case rel => exact ⟨k + 1, _, by omega, by go_num, rfl, HC, by simp; omega, hB.alloc hzr _⟩
        case measure => simp [intOf]; omega
      · have hc : isCapital s[k] = false := by simpa using hc
        have HC : Hid ((acc ++ [s[k]]) = smaller (s.data.toList.take (k + 1))) := by
          show _ = _
          rw [HT.out, HA.out, smaller_snoc, small, if_neg (by rw [hc]; decide)]
        have HCap : Hid (hasB capBytes s[k] = false) := by show _ = _; rw [cap_has]; exact hc
        have a1 := add_byte acc s[k] (by omega)
        have hsl : ∀ wx, (Instr.slice 9 (.string s) (some (.int .i64 (k : Int))) (some (.int .i64 ((k : Int) + 1))) none).run Tryz.prog wx = .ok (.string ⟨#[s[k]]⟩) wx := fun wx => by
          rw [run_slice_string (P := Tryz.prog) wx 9 s .i64 .i64 (k : Int) ((k : Int) + 1) Tryz.underlying9 (by omega) (by omega) (by omega)]
          rw [show ((k : Int)).toNat = k by omega, show ((k : Int) + 1).toNat = k + 1 by omega, extract_one s k hlt]
        clear hc
        go_wp2_with fail
        refine (among_walk s[k] _ _ (by decide)).mono ?_
        rintro e w' ⟨he, rfl⟩
        have he' : e = .returned (.bool false) := by rw [he]; exact congrArg (fun b => Ending.returned (.bool b)) HCap.out
        clear he
        subst he'
        go_wp2
        go_roundw
        case rel => exact ⟨k + 1, _, by omega, by go_num, rfl, HC, by simp; omega, hB⟩
        case measure => simp [intOf]; omega
    · have HR : Hid (acc = smaller s.data.toList) := by
        show _ = _
        rw [HA.out, List.take_of_length_le (by rw [size_len]; omega)]
      go_wp2
      go_ret
      exact ⟨by rw [HR.out]; rfl, hB⟩
theorem trimmed_left {c : UInt8} {l : Bytes} (h : c = 32) : trimmed (c :: l) = trimmed l := by
  unfold trimmed
  rw [List.dropWhile_cons_of_pos (by simp [h])]
theorem trimmed_stop {c : UInt8} {l : Bytes} (h : c ≠ 32) : trimmed (c :: l) = ((c :: l).reverse.dropWhile (· == 32)).reverse := by
  unfold trimmed
  rw [List.dropWhile_cons_of_neg (by simp [h])]
/-- Blanks at the end alone. -/
def tail' (l : Bytes) : Bytes := (l.reverse.dropWhile (· == 32)).reverse
theorem tail_left (l : Bytes) : tail' (l ++ [32]) = tail' l := by
  unfold tail'
  rw [List.reverse_append]
  simp only [List.reverse_cons, List.reverse_nil, List.nil_append, List.cons_append]
  rw [List.dropWhile_cons_of_pos (by simp)]
theorem tail_stop (l : Bytes) {c : UInt8} (h : c ≠ 32) : tail' (l ++ [c]) = l ++ [c] := by
  unfold tail'
  rw [List.reverse_append]
  simp only [List.reverse_cons, List.reverse_nil, List.nil_append, List.cons_append]
  rw [List.dropWhile_cons_of_neg (by simp [h])]
  simp
theorem cons_of (s : ByteArray) (h : 0 < s.size) : s.data.toList = s[0] :: (s.extract 1 s.size).data.toList := by
  have := drop_at s 0 h
  rw [List.drop_zero] at this
  rw [this, extract_list]
  congr 1
  rw [List.take_of_length_le]
  rw [List.length_drop, size_len]
  omega
theorem snoc_of (s : ByteArray) (h : 0 < s.size) : s.data.toList = (s.extract 0 (s.size - 1)).data.toList ++ [s[s.size - 1]] := by
  rw [extract_list]
  have := take_snoc s (s.size - 1) (by omega)
  rw [show s.size - 1 + 1 = s.size by omega, List.take_of_length_le (by rw [size_len]; omega)] at this
  rw [this]
  simp
set_option maxHeartbeats 1000000 in
theorem trimmed_walk (s : ByteArray) (w : World) (hs : s.size ≤ 1099511627776) :
    Calls Tryz.prog 39 #[.string s] w fun e w' => e = .returned (.string ⟨(trimmed s.data.toList).toArray⟩) ∧ w' = w := by
  go_enter Tryz.func39, Tryz.ntmps39
  go_wp2
  go_loop [0] (fun v => ∃ t : ByteArray, v = .string t ∧ t.size ≤ 1099511627776 ∧ Hid (trimmed t.data.toList = trimmed s.data.toList)) (fun v => match v with | .string t => t.size | _ => 0)
  case atStart => exact ⟨s, rfl, hs, rfl⟩
  case round =>
    obtain ⟨t, rfl, ht, HT⟩ := hrel
    by_cases h0 : 0 < t.size
    · have hp : (0 : Int) < (t.size : Int) := by omega
      by_cases hc : t[0] = 32
      · have bc : ((t[0].toNat : Int) == 32) = true := by rw [hc]; rfl
        have hsl : ∀ wx, (Instr.slice 9 (.string t) (some (.int .i64 1)) none none).run Tryz.prog wx = .ok (.string (t.extract 1 t.size)) wx := fun wx => by
          rw [run_slice_string_from_if wx 9 t .i64 1 Tryz.underlying9, if_pos (by omega)]
          rfl
        have HT' : Hid (trimmed (t.extract 1 t.size).data.toList = trimmed s.data.toList) := by
          show _ = _
          rw [← HT.out, cons_of t h0, trimmed_left hc]
        clear hc
        go_wp2
        go_round
        case rel => exact ⟨_, rfl, by simp; omega, HT'⟩
        case measure => simp; omega
      · have bc : ((t[0].toNat : Int) == 32) = false := by rw [beq_eq_false_iff_ne]; intro e; exact hc (UInt8.toNat_inj.1 (by have : (32 : UInt8).toNat = 32 := rfl; omega))
        have HI : Hid (tail' t.data.toList = trimmed s.data.toList) := by
          show _ = _
          rw [← HT.out, cons_of t h0, trimmed_stop hc]; rfl
        clear hc HT
        go_wp2
        go_loop [0] (fun v => ∃ t : ByteArray, v = .string t ∧ t.size ≤ 1099511627776 ∧ Hid (tail' t.data.toList = trimmed s.data.toList)) (fun v => match v with | .string t => t.size | _ => 0)
        case atStart => exact ⟨_, rfl, ht, HI⟩
        case round =>
          obtain ⟨u, rfl, hu, HU⟩ := hrel
          by_cases k0 : 0 < u.size
          · have kp : (0 : Int) < (u.size : Int) := by omega
            have hix : ((u.size : Int) - 1).toNat = u.size - 1 := by omega
            have hui : u.size - 1 < u.size := by omega
            have hcast : ((u.size - 1 : Nat) : Int) = (u.size : Int) - 1 := by omega
            have HS : Hid (u.data.toList = (u.extract 0 (u.size - 1)).data.toList ++ [u[u.size - 1]'hui]) := snoc_of u k0
            obtain ⟨d, hd⟩ : ∃ d, u[u.size - 1]'hui = d := ⟨_, rfl⟩
            rw [hd] at HS
            have hin : ∀ wx, (Instr.index 9 (.string u) (.int .i64 ((u.size : Int) - 1))).run Tryz.prog wx = .ok (.int .u8 d.toNat) wx := fun wx => by
              rw [run_index_string wx 9 u .i64 ((u.size : Int) - 1) Tryz.underlying9, dif_pos (by omega)]; simp only [hix, hd]
            by_cases kc : d = 32
            · have bc : ((d.toNat : Int) == 32) = true := by rw [kc]; rfl
              have hsl : ∀ wx, (Instr.slice 9 (.string u) none (some (.int .i64 ((u.size : Int) - 1))) none).run Tryz.prog wx = .ok (.string (u.extract 0 (u.size - 1))) wx := fun wx => by
                rw [run_slice_string_to_if wx 9 u .i64 ((u.size : Int) - 1) Tryz.underlying9, if_pos (by omega), hix]
              have HU' : Hid (tail' (u.extract 0 (u.size - 1)).data.toList = trimmed s.data.toList) := by
                show _ = _
                rw [← HU.out, HS.out, kc, tail_left]
              clear kc hd HS
              go_wp2
              go_round
              case rel => exact ⟨_, rfl, by simp; omega, HU'⟩
              case measure => simp; omega
            · have bc : ((d.toNat : Int) == 32) = false := by rw [beq_eq_false_iff_ne]; intro e; exact kc (UInt8.toNat_inj.1 (by have : (32 : UInt8).toNat = 32 := rfl; omega))
              have HF : Hid (u = ⟨(trimmed s.data.toList).toArray⟩) := by
                apply ba_ext
                have e := HU.out
                rw [HS.out, tail_stop _ kc, ← HS.out] at e
                rw [e]
              clear kc hd HS
              go_wp2
              go_ret
              exact ⟨congrArg (fun x => Ending.returned (.string x)) HF.out, rfl⟩
          · have k0' : ¬ (0 : Int) < (u.size : Int) := by omega
            have HF : Hid (u = ⟨(trimmed s.data.toList).toArray⟩) := by
              apply ba_ext
              have e : u.data.toList = [] := List.eq_nil_of_length_eq_zero (by rw [size_len]; omega)
              rw [← HU.out, e]; rfl
            go_wp2
            go_ret
            exact ⟨congrArg (fun x => Ending.returned (.string x)) HF.out, rfl⟩
    · have h0' : ¬ (0 : Int) < (t.size : Int) := by omega
      have HI : Hid (tail' t.data.toList = trimmed s.data.toList) := by
        show _ = _
        have e : t.data.toList = [] := List.eq_nil_of_length_eq_zero (by rw [size_len]; omega)
        rw [← HT.out, e]; rfl
      clear HT
      go_wp2
      go_loop [0] (fun v => ∃ t : ByteArray, v = .string t ∧ t.size ≤ 1099511627776 ∧ Hid (tail' t.data.toList = trimmed s.data.toList)) (fun v => match v with | .string t => t.size | _ => 0)
      case atStart => exact ⟨_, rfl, ht, HI⟩
      case round =>
        obtain ⟨u, rfl, hu, HU⟩ := hrel
        by_cases k0 : 0 < u.size
        · have kp : (0 : Int) < (u.size : Int) := by omega
          have hix : ((u.size : Int) - 1).toNat = u.size - 1 := by omega
          have hui : u.size - 1 < u.size := by omega
          have hcast : ((u.size - 1 : Nat) : Int) = (u.size : Int) - 1 := by omega
          have HS : Hid (u.data.toList = (u.extract 0 (u.size - 1)).data.toList ++ [u[u.size - 1]'hui]) := snoc_of u k0
          obtain ⟨d, hd⟩ : ∃ d, u[u.size - 1]'hui = d := ⟨_, rfl⟩
          rw [hd] at HS
          have hin : ∀ wx, (Instr.index 9 (.string u) (.int .i64 ((u.size : Int) - 1))).run Tryz.prog wx = .ok (.int .u8 d.toNat) wx := fun wx => by
            rw [run_index_string wx 9 u .i64 ((u.size : Int) - 1) Tryz.underlying9, dif_pos (by omega)]; simp only [hix, hd]
          by_cases kc : d = 32
          · have bc : ((d.toNat : Int) == 32) = true := by rw [kc]; rfl
            have hsl : ∀ wx, (Instr.slice 9 (.string u) none (some (.int .i64 ((u.size : Int) - 1))) none).run Tryz.prog wx = .ok (.string (u.extract 0 (u.size - 1))) wx := fun wx => by
              rw [run_slice_string_to_if wx 9 u .i64 ((u.size : Int) - 1) Tryz.underlying9, if_pos (by omega), hix]
            have HU' : Hid (tail' (u.extract 0 (u.size - 1)).data.toList = trimmed s.data.toList) := by
              show _ = _
              rw [← HU.out, HS.out, kc, tail_left]
            clear kc hd HS
            go_wp2
            go_round
            case rel => exact ⟨_, rfl, by simp; omega, HU'⟩
            case measure => simp; omega
          · have bc : ((d.toNat : Int) == 32) = false := by rw [beq_eq_false_iff_ne]; intro e; exact kc (UInt8.toNat_inj.1 (by have : (32 : UInt8).toNat = 32 := rfl; omega))
            have HF : Hid (u = ⟨(trimmed s.data.toList).toArray⟩) := by
              apply ba_ext
              have e := HU.out
              rw [HS.out, tail_stop _ kc, ← HS.out] at e
              rw [e]
            clear kc hd HS
            go_wp2
            go_ret
            exact ⟨congrArg (fun x => Ending.returned (.string x)) HF.out, rfl⟩
        · have k0' : ¬ (0 : Int) < (u.size : Int) := by omega
          have HF : Hid (u = ⟨(trimmed s.data.toList).toArray⟩) := by
            apply ba_ext
            have e : u.data.toList = [] := List.eq_nil_of_length_eq_zero (by rw [size_len]; omega)
            rw [← HU.out, e]; rfl
          go_wp2
          go_ret
          exact ⟨congrArg (fun x => Ending.returned (.string x)) HF.out, rfl⟩
end Go.Proofs.YtmodongnganbfaaGreatDoor.Rep
/- Replies: an append that tells what it turned. -/
namespace Go.Proofs.YtmodongnganbfaaGreatDoor.Rep
open Go.RowKit Go.Proofs.YtmodongnganbfaaGreatDoor Go.Proofs.YtmodongnganbfaaGreatDoor.Sha
/-- What an append turned: the slice's own block alone; what it gives lies there, or is new. -/
def Turned (w w' : World) (v v' : Value) : Prop := Only (fun k => v.ownBlock = some k) w w' ∧ (∀ g, v'.ownBlock = some g → v.ownBlock = some g ∨ w.heap.size ≤ g)
theorem own_block_ge {w : World} {base : Nat} {v : Value} {xs : List Value} (h : Own w base v xs) : ∀ g, v.ownBlock = some g → base ≤ g := by
  intro g hg
  rcases h with ⟨rfl, _⟩ | ⟨g', cap, rfl, hb, _⟩
  · cases hg
  · simp only [Value.ownBlock, Option.some.injEq] at hg
    omega
theorem own_block_lt {w : World} {base : Nat} {v : Value} {xs : List Value} (h : Own w base v xs) : ∀ g, v.ownBlock = some g → g < w.heap.size := by
  intro g hg
  rcases h with ⟨rfl, _⟩ | ⟨g', cap, rfl, _, hl, _⟩
  · cases hg
  · simp only [Value.ownBlock, Option.some.injEq] at hg
    omega
theorem own_mono {w : World} {b b' : Nat} {v : Value} {xs : List Value} (h : Own w b v xs) (hb : b' ≤ b) : Own w b' v xs := by
  rcases h with h | ⟨g, cap, h1, h2, h3⟩
  · exact .inl h
  · exact .inr ⟨g, cap, h1, Nat.le_trans hb h2, h3⟩
theorem turned_set {w : World} {g o n cap n' : Nat} (news : List Value) : Turned w (w.setCells g o news) (.slice (some ⟨g, 0, none⟩) n cap) (.slice (some ⟨g, 0, none⟩) n' cap) :=
  ⟨(only_setCells g news o w).mono (fun k hk => by rw [hk]; rfl), fun _ h => .inl h⟩
theorem turned_new {w w' : World} {v v' : Value} (h : Below w.heap.size w w') (hb : ∀ g, v'.ownBlock = some g → w.heap.size ≤ g) : Turned w w' v v' := ⟨Only.of_below h, fun g hg => .inr (hb g hg)⟩
theorem wpList_append_T {P : Program} {w : World} {ops : Array Oper} {rest : List Oper} {o : Oper} {a : Act} {Q : Exit → Act → World → Prop} (hgd : o.guard = none) (s x : Operand) (t : TypeId)
    (ho : o.op = .call { callee := .builtin .append, args := #[s, x], argTypes := #[t, t] })
    (base : Nat) (e : TypeId) (i : TypeInfo) (z : Value) (bytes : Nat) (ht : P.underlying t = some (.slice e)) (hi : P.info? e = some i) (hz : i.zero = some z)
    (hsize : i.size = 1) (hby : i.bytes = bytes) (hzs : z.cells.size = 1)
    (v : Value) (xs : List Value) (hs : a.eval s = v) (hown : Own w base v xs)
    (ad : Addr) (m c : Nat) (news : List Value) (hx : a.eval x = .slice (some ad) m c) (hl : news.length = m) (hnews : ∀ j u, news[j]? = some u → w.cell? (ad.add j) = some u) (h1 : ∀ u ∈ news, u.oneCell' = true)
    (hm : 0 < m) (h63 : xs.length + m ≤ maxLen) (hbytes : (xs.length + m) * bytes ≤ 140737488355328) (hbase : base ≤ w.heap.size)
    (h : ∀ g cap w', Own w' base (.slice (some ⟨g, 0, none⟩) (xs.length + m) cap) (xs ++ news) → Turned w w' v (.slice (some ⟨g, 0, none⟩) (xs.length + m) cap) → wpList P ops Q rest (a.put o.dst (.slice (some ⟨g, 0, none⟩) (xs.length + m) cap)) w') : wpList P ops Q (o :: rest) a w := by
  have hnn : xs ++ news ≠ [] := by intro e; rw [List.append_eq_nil_iff] at e; rw [e.2] at hl; simp at hl; omega
  have hlen : (xs ++ news).length = xs.length + m := by rw [List.length_append, hl]
  rcases hown with ⟨hv, hxs⟩ | ⟨g, cap, hv, hb, hgl, hcap, hc, hsp⟩
  · subst hv; subst hxs
    refine wpList_append_grows w hgd s x t ho e i z 1 bytes ht hi hz hsize hby hzs (by decide) none 0 0 [] hs (fun _ => ⟨rfl, rfl⟩) (by simp) (fun _ h => by cases h) ad m c news hx (by rw [hl]; omega) hnews h1 (by omega) (by simpa using h63) (by simpa using hbytes) ?_
    intro v' w' h2 h3
    have h2' := Own.of_row h2
    obtain ⟨g, cap, rfl⟩ := h2'.form hnn
    rw [hlen] at h2' ⊢
    exact h g cap w' (own_mono h2' hbase) (turned_new (below_of_grown h3) (own_block_ge h2'))
  · subst hv
    refine wpList_append_arg w hgd s x t ho e i z 1 bytes ht hi hz hsize hby hzs (by decide) g 0 xs.length cap xs hs (by omega) (fun j u hj => by rw [Nat.zero_add]; exact hc j u hj) ad m c news hx (by rw [hl]; omega) hnews h1 ?_ h63 hbytes ?_ ?_
    · intro hr j hj
      have := hsp (0 + xs.length * 1 + j) (by omega)
      exact this
    · intro hr
      refine h g cap _ ?_ (turned_set news)
      refine .inr ⟨g, cap, by rw [List.length_append, hl], hb, by rw [size_setCells]; exact hgl, by rw [List.length_append, hl]; exact hr, fun j u hj => ?_, fun j hj => ?_⟩
      · rcases Nat.lt_or_ge j xs.length with hj' | hj'
        · rw [List.getElem?_append_left hj'] at hj
          rw [World.cell?_setCells_out g news _ w ⟨g, j, none⟩ (fun _ _ => by left; show j < _; omega)]
          exact hc j u hj
        · rw [List.getElem?_append_right hj'] at hj
          obtain ⟨hj2, hj3⟩ := List.getElem?_eq_some_iff.1 hj
          have := World.cell?_setCells_in g news (0 + xs.length * 1) w (fun j hj => (hsp _ (by omega)).1) (j - xs.length) hj2
          rw [show 0 + xs.length * 1 + (j - xs.length) = j by omega] at this
          rw [this, hj3]
      · rw [World.frozen?_setCells]
        refine ⟨?_, (hsp j hj).2⟩
        by_cases hj' : xs.length ≤ j ∧ j < xs.length + news.length
        · have := World.cell?_setCells_in g news (0 + xs.length * 1) w (fun j hj => (hsp _ (by omega)).1) (j - xs.length) (by omega)
          rw [show 0 + xs.length * 1 + (j - xs.length) = j by omega] at this
          rw [this]; rfl
        · rw [World.cell?_setCells_out g news _ w ⟨g, j, none⟩ (fun _ _ => by show j < _ ∨ _ ≤ j; omega)]
          exact (hsp j hj).1
    · intro hr v' w' h2 h3
      have h2' := Own.of_row h2
      obtain ⟨g', cap', rfl⟩ := h2'.form hnn
      rw [hlen] at h2' ⊢
      exact h g' cap' w' (own_mono h2' hbase) (turned_new (below_of_grown h3) (own_block_ge h2'))
theorem Row.only {S : Nat → Prop} {w w' : World} {b : Nat} {xs : List Value} (h : Row w b xs) (hp : 0 < xs.length) (hk : Only S w w') (hs : ¬ S b) : Row w' b xs := by
  have hl := h.lt hp
  have hb := hk.block b hl hs
  exact ⟨fun i v hi => by rw [hk.cell (p := ⟨b, i, none⟩) hl hs]; exact h.cell i v hi, fun i => by
    have e : w'.frozen? ⟨b, i, none⟩ = w.frozen? ⟨b, i, none⟩ := by simp only [World.frozen?, hb]
    rw [e]; exact h.fro i⟩
theorem smaller_list (l : Bytes) (w : World) (hs : l.length ≤ 1000) : Calls Tryz.prog 38 #[.string ⟨l.toArray⟩] w fun e w' => e = .returned (.string ⟨(smaller l).toArray⟩) ∧ Below w.heap.size w w' := by
  have h := smaller_walk ⟨l.toArray⟩ w (by show l.toArray.size ≤ _; simp; omega)
  simpa using h
theorem trimmed_list (l : Bytes) (w : World) (hs : l.length ≤ 1000) : Calls Tryz.prog 39 #[.string ⟨l.toArray⟩] w fun e w' => e = .returned (.string ⟨(trimmed l).toArray⟩) ∧ w' = w := by
  have h := trimmed_walk ⟨l.toArray⟩ w (by show l.toArray.size ≤ _; simp; omega)
  simpa using h
def nameBytes : ByteArray := ⟨#[97, 98, 99, 100, 101, 102, 103, 104, 105, 106, 107, 108, 109, 110, 111, 112, 113, 114, 115, 116, 117, 118, 119, 120, 121, 122, 65, 66, 67, 68, 69, 70, 71, 72, 73, 74, 75, 76, 77, 78, 79, 80, 81, 82, 83, 84, 85, 86, 87, 88, 89, 90, 48, 49, 50, 51, 52, 53, 54, 55, 56, 57, 45]⟩
theorem name_has (c : UInt8) : hasB nameBytes.data.toList c = isNameByte c := by
  have all : ∀ n : Fin 256, hasB nameBytes.data.toList (UInt8.ofNat n.val) = isNameByte (UInt8.ofNat n.val) := by decide +kernel
  have h := all ⟨c.toNat, c.toNat_lt⟩
  simpa using h
theorem name_walk (c : UInt8) (w : World) : Calls Tryz.prog 33 #[.int .u8 c.toNat, .string ⟨#[97, 98, 99, 100, 101, 102, 103, 104, 105, 106, 107, 108, 109, 110, 111, 112, 113, 114, 115, 116, 117, 118, 119, 120, 121, 122, 65, 66, 67, 68, 69, 70, 71, 72, 73, 74, 75, 76, 77, 78, 79, 80, 81, 82, 83, 84, 85, 86, 87, 88, 89, 90, 48, 49, 50, 51, 52, 53, 54, 55, 56, 57, 45]⟩] w fun e w' => e = .returned (.bool (isNameByte c)) ∧ w' = w := by
  rw [← name_has c]
  exact among_walk c nameBytes w (by decide)
/-- Below mb nothing turns; nor does a block that begins with a number, but the machine's own. -/
structure Frm (mb : Nat) (w w' : World) : Prop where
  below : Below mb w w'
  ints : ∀ b, b < w.heap.size → b ≠ mb → (∃ x, w.cell? ⟨b, 0, none⟩ = some (.int .i64 x)) → w'.heap[b]? = w.heap[b]?
theorem Frm.of_only {mb : Nat} {w w' : World} (h : Only (· = mb) w w') (hl : mb < w.heap.size) : Frm mb w w' :=
  ⟨⟨h.os, h.tape, h.output, h.size, fun k hk => h.block k (by omega) (fun e => by have e : k = mb := e; omega)⟩, fun b hb hn _ => h.block b hb hn⟩
theorem Frm.trans {mb : Nat} {a b c : World} (h : Frm mb a b) (k : Frm mb b c) : Frm mb a c :=
  ⟨h.below.trans k.below, fun x hx hn hi => by
    have e := h.ints x hx hn hi
    obtain ⟨y, hy⟩ := hi
    exact (k.ints x (Nat.lt_of_lt_of_le hx h.below.size) hn ⟨y, by rw [World.cell?_of_block (w := a) (a := ⟨x, 0, none⟩) e]; exact hy⟩).trans e⟩
end Go.Proofs.YtmodongnganbfaaGreatDoor.Rep
