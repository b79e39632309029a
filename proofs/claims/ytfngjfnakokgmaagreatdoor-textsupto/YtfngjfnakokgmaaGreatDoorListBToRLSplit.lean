/- names.List: what it answers of every text. -/
import Derived.Test.YtfngjfnakokgmaaGreatDoorListA
import Derived.Test.YtfngjfnakokgmaaGreatDoorBaseToShaOwn
import Derived.Test.YtfngjfnakokgmaaGreatDoorRefCToListSplit
namespace Go.Proofs.YtfngjfnakokgmaaGreatDoor
open Go.RowKit Go.Sort Go.Proofs.YtfngjfnakokgmaaGreatDoor.Sha
def strv (s : ByteArray) : Value := .string s
theorem strv_one (c : ByteArray) : (strv c).oneCell' = true := rfl
/-- What List tells. -/
def listP (l : List UInt8) : List (List UInt8) := Lst.putAll ltT (lines l)
def LPost (s : ByteArray) (w : World) (e : Ending) (w' : World) : Prop :=
  ∃ (v : Value) (T : List ByteArray), e = .returned v ∧ T.map (·.data.toList) = listP s.data.toList ∧ OwnL strv w' w.heap.size v T ∧ Below w.heap.size w w' ∧ (T = [] → v = .slice none 0 0) ∧ T.length ≤ 1048577
def LRel (w w1 : World) (L : List ByteArray) (v i : Value) (wr : World) : Prop :=
  ∃ (k : Nat) (D : List Ent), k ≤ L.length ∧ i = .int .i64 (k : Int) ∧ Found (w.heap.size + 1) v D wr ∧ D.length ≤ k ∧ D.map Ent.txt = ((L.take k).map (·.data.toList)).filter (fun x => (parseV x).isSome) ∧ Below (w.heap.size + 1) w1 wr
theorem flat_ent : ∀ (L : List Ent) (k j : Nat) (h : k < L.length), j < 5 → (L.flatMap Ent.enc)[k * 5 + j]? = (L[k].enc)[j]?
  | [], _, _, h, _ => by simp at h
  | b :: L, 0, j, _, hj => by
    rw [List.flatMap_cons, List.getElem?_append_left (by rw [enc_len]; omega)]
    simp
  | b :: L, k + 1, j, h, hj => by
    have e : (k + 1) * 5 + j - b.enc.length = k * 5 + j := by rw [enc_len]; omega
    rw [List.flatMap_cons, List.getElem?_append_right (by rw [enc_len]; omega), e, flat_ent L k j (by simpa using h) hj]
    simp
theorem found_row {base : Nat} {v : Value} {D : List Ent} {w : World} (h : Found base v D w) (hne : D ≠ []) : ∃ g cap, v = .slice (some ⟨g, 0, none⟩) D.length cap ∧ base ≤ g ∧ D.length ≤ cap ∧ (∃ c, w.heap[g]? = some (.cells c 94 (0, 0))) ∧ RowOf g D w := by
  have h2 := h.own
  rcases h.own.2 with ⟨_, h0⟩ | ⟨g, cap, cur, rfl, hb, hg, hc, _⟩
  · exact absurd (List.eq_nil_of_length_eq_zero h0) hne
  · refine ⟨g, cap, rfl, hb, hc, ⟨cur, hg⟩, fun j hj i hi => ⟨?_, ?_⟩⟩
    · rw [h2.cellAt (j * 5 + i) (by omega), flat_ent D j i hj hi]
    · simp [World.frozen?, hg]
theorem own_mono {w : World} {base base' : Nat} {v : Value} {xs : List Value} (h : Own w base v xs) (hb : base' ≤ base) : Own w base' v xs := by
  rcases h with h | ⟨g, cap, q1, q2, q3, q4, q5, q6⟩
  · exact .inl h
  · exact .inr ⟨g, cap, q1, Nat.le_trans hb q2, q3, q4, q5, q6⟩
theorem insert_none (f : Value) (w : World) : Calls Tryz.prog 67 #[.slice none 0 0, .int .i64 0, .int .i64 0, f] w fun e w' => e = .returned (.tuple #[]) ∧ w' = w := by
  go_enter Tryz.func67, Tryz.ntmps67
  go_wp2
  refine wp_loop_rounds 1 ?_
  rw [rounds_succ]
  go_wp2
  go_end0
  exact ⟨rfl, rfl⟩
set_option maxHeartbeats 2000000 in
set_option maxRecDepth 100000 in
theorem pdq_none (l : Int) (f : Value) (w : World) : Calls Tryz.prog 51 #[.slice none 0 0, .int .i64 0, .int .i64 0, .int .i64 l, f] w fun e w' => e = .returned (.tuple #[]) ∧ w' = w := by
  have hi := insert_none f
  go_enter Tryz.func51, Tryz.ntmps51
  go_wp2
  refine wp_loop_rounds 1 ?_
  rw [rounds_succ]
  go_wp2_with fail
  refine (hi _).mono ?_
  rintro e w' ⟨rfl, rfl⟩
  go_wp2
  (try simp only [Exit.inBlock, Exit.then])
  refine bodyPost_ret (results_none rfl _ _ _) rfl ?_
  exact ⟨rfl, rfl⟩
theorem sort_none (f : Value) (w : World) : Calls Tryz.prog 31 #[.slice none 0 0, f] w fun e w' => e = .returned (.tuple #[]) ∧ w' = w := by
  go_enter Tryz.func31, Tryz.ntmps31
  go_wp2_with fail
  refine (Tryz.bits_Len 0 w (by decide) (by decide)).mono ?_
  rintro e w' ⟨rfl, rfl⟩
  go_wp2_with fail
  refine (pdq_none _ f _).mono ?_
  rintro e w2 ⟨rfl, rfl⟩
  go_wp2
  go_end0
  exact ⟨rfl, rfl⟩
theorem compact_nil (w : World) (f : Value) : Calls Tryz.prog 33 #[.slice none 0 0, f] w fun e w' => e = .returned (.slice none 0 0) ∧ w' = w := by
  go_enter Tryz.func33, Tryz.ntmps33
  go_wp2
  go_ret
  exact ⟨rfl, rfl⟩
theorem clone_walk (s : ByteArray) (w : World) (hs : s.size ≤ 1048576) : Calls Tryz.prog 35 #[.string s] w fun e w' => e = .returned (.string s) ∧ Below w.heap.size w w' := by
  go_enter Tryz.func35, Tryz.ntmps35
  go_wp2_with fail
  refine (Tryz.stringslite_Clone s w (by omega)).mono ?_
  rintro e w' ⟨rfl, hb⟩
  go_wp2
  go_ret
  exact ⟨rfl, hb⟩
theorem strInfo' : (Tryz.prog.info? 9).map (fun i => (i.zero, i.size, i.bytes)) = some (some (.string ⟨#[]⟩), 1, 16) := by kernel_rfl
theorem list_math {D D' d2 : List Ent} {ls : List (List UInt8)} (h1 : D.map Ent.txt = ls) (hls : ∀ z ∈ ls, parseV z ≠ none) (hp : D'.Perm D) (hs : D'.Pairwise (fun a b => ltT b.t.data.toList a.t.data.toList = false)) (h2 : d2.map Ent.txt = Lst.once (D'.map Ent.txt)) : d2.map Ent.txt = Lst.putAll ltT ls := by
  rw [h2]
  refine Lst.once_sorted ltT_strict ls (D'.map Ent.txt) hls (fun z => ?_) ?_
  · rw [← h1]
    exact (hp.map Ent.txt).mem_iff
  · rw [List.pairwise_map]; exact hs
theorem behind_mem {α : Type} [DecidableEq α] : ∀ (p : α) (l : List α) (z : α), z ∈ Lst.behind p l → z ∈ l
  | _, [], _, h => by cases h
  | p, y :: l, z, h => by
    unfold Lst.behind at h
    split at h
    · exact List.mem_cons_of_mem _ (behind_mem y l z h)
    · rcases List.mem_cons.1 h with rfl | h
      · exact List.mem_cons_self
      · exact List.mem_cons_of_mem _ (behind_mem y l z h)
theorem once_mem {α : Type} [DecidableEq α] {l : List α} {z : α} (h : z ∈ Lst.once l) : z ∈ l := by
  cases l with
  | nil => cases h
  | cons x l =>
    rcases List.mem_cons.1 h with rfl | h
    · exact List.mem_cons_self
    · exact List.mem_cons_of_mem _ (behind_mem x l z h)
theorem behind_len {α : Type} [DecidableEq α] : ∀ (p : α) (l : List α), (Lst.behind p l).length ≤ l.length
  | _, [] => Nat.le_refl _
  | p, y :: l => by
    have := behind_len y l
    unfold Lst.behind
    split
    · simp; omega
    · simp; omega
theorem once_len {α : Type} [DecidableEq α] (l : List α) : (Lst.once l).length ≤ l.length := by
  cases l with
  | nil => exact Nat.le_refl _
  | cons x l => have := behind_len x l; unfold Lst.once; simp; omega
theorem row_below {g : Nat} {d : List Ent} {w w' : World} {B : Nat} (h : RowOf g d w) (hb : Below B w w') (hg : g < B) : RowOf g d w' := fun j hj i hi => by
  obtain ⟨h1, h2⟩ := h j hj i hi
  exact ⟨by rw [hb.cell (p := ⟨g, j * 5 + i, none⟩) hg]; exact h1, by rw [hb.frozen (p := ⟨g, j * 5 + i, none⟩) hg]; exact h2⟩
/-- What the last loop keeps. -/
def TRel (w : World) (B g : Nat) (d : List Ent) (v i : Value) (wr : World) : Prop :=
  ∃ (k : Nat) (T : List ByteArray), k ≤ d.length ∧ i = .int .i64 (k : Int) ∧ OwnL strv wr B v T ∧ T.length = k ∧ T.map (·.data.toList) = (d.take k).map Ent.txt ∧ RowOf g d wr ∧ Below w.heap.size w wr ∧ B ≤ wr.heap.size ∧ (T = [] → v = .slice none 0 0)
set_option maxHeartbeats 2000000 in
set_option maxRecDepth 100000 in
theorem list_walk (s : ByteArray) (w : World) (a0 a1 : Addr) (m : Int) (hs : s.size ≤ 1048576) (hW : VerW a0 a1 m w) :
    Calls Tryz.prog 16 #[.string s] w fun e w' => LPost s w e w' := by
  obtain ⟨i0, hi, hz0, hz1, hz2⟩ := info_parts listedInfo
  have HMax := hW.maxLen
  go_enter Tryz.func16, Tryz.ntmps16
  go_wp2_with fail
  refine (split_nl s m _ hs HMax).mono ?_
  rintro e w0 ⟨L, hL, hp, hl, rfl, rfl⟩
  have HL : Hid (L.map (·.data.toList) = splC 10 s.data.toList) := hL
  have HP : Hid (∀ p ∈ L, p.size ≤ 1048576) := hp
  have HW : Hid (VerW a0 a1 m w) := hW
  clear hL HMax hp hW
  obtain ⟨w1, HW1⟩ : ∃ w1, Hid (w.alloc (.cells (L.map Value.string).toArray 9) = w1) := ⟨_, rfl⟩
  have hb01 : Below w.heap.size w w1 := by rw [← HW1.out]; exact below_one w _
  have hs01 : w1.heap.size = w.heap.size + 1 := by rw [← HW1.out]; simp
  have HCe : Hid (∀ k (hk : k < L.length), w1.cell? ⟨w.heap.size, k, none⟩ = some (.string L[k])) := fun k hk => by
    rw [← HW1.out, World.cell?_alloc_at _ _ _ _ rfl]
    simp [hk]
  go_wp2
  rw [HW1.out]
  go_loopw [3, 14] (fun v i wr => LRel w w1 L v i wr) (fun _ i _ => L.length - (intOf i).toNat)
  case atStart => exact ⟨0, [], Nat.zero_le _, rfl, found_nil _ _, Nat.zero_le _, rfl, Below.refl _ _⟩
  case round =>
    obtain ⟨k, D, hk, rfl, hF, hDl, hD, hB⟩ := hrel
    have HF : Hid (Found (w.heap.size + 1) _ D wr) := hF
    have HD : Hid (D.map Ent.txt = ((L.take k).map (·.data.toList)).filter (fun x => (parseV x).isSome)) := hD
    have hBw : Below w.heap.size w wr := hb01.trans (hB.mono (by omega))
    have hsz : w.heap.size + 1 ≤ wr.heap.size := by have := hB.size; omega
    clear hF hD
    by_cases hlt : k < L.length
    · have hlt' : (k : Int) < (L.length : Int) := by omega
      have hcell : wr.cell? ⟨w.heap.size, k, none⟩ = some (.string L[k]) := by
        rw [hB.cell (p := ⟨w.heap.size, k, none⟩) (by show w.heap.size < _; omega)]; exact HCe.out k hlt
      have hq := HP.out L[k] (List.getElem_mem hlt)
      go_wp2_with fail
      refine (parse_walk L[k] wr a0 a1 m (by unfold maxLen; omega) (HW.out.below hBw)).mono ?_
      rintro e w2 ⟨he, hb2⟩
      have hB2 := hB.trans (hb2.mono hsz)
      have hz2' := hb2.size
      have HF2 : Hid (Found (w.heap.size + 1) _ D w2) := HF.out.below hb2
      clear hB hBw hb2 hcell
      rcases he with ⟨x, vv, hx, rfl, hv⟩ | ⟨hx, b, rfl, hc⟩
      · obtain ⟨q0, q1, q2, ao, n, cap, rfl⟩ := verIs_form hv
        obtain ⟨ent, hent⟩ : ∃ ent : Ent, ent = ⟨L[k], q0, q1, q2, ao, n, cap⟩ := ⟨_, rfl⟩
        have HV : Hid (VerIs w2 ent.ver (xOf ent.t.data.toList)) := by rw [hent]; show VerIs _ _ (xOf L[k].data.toList); rw [xOf_some hx]; exact hv
        have HPn : Hid (parseV L[k].data.toList ≠ none) := by rw [hx]; exact Option.some_ne_none _
        have HEn : Hid (ent.enc = [.string L[k], .int .i64 q0, .int .i64 q1, .int .i64 q2, .slice ao n cap]) := by rw [hent]; rfl
        have HEt : Hid (ent.t = L[k]) := by rw [hent]; rfl
        clear hx hv hent
        have hown2 := HF2.out.own
        go_wp2_with (at_builtin; refine wpList_append_own _ rfl _ _ 86 rfl (w.heap.size + 1) 94 i0 (.agg #[.string ⟨#[]⟩, .int .i64 0, .int .i64 0, .int .i64 0, .slice none 0 0]) 5 64 Tryz.underlying86 hi hz0 hz1 hz2 rfl (by decide) _ _ _ rfl ((hown2.alloc _).alloc _) ⟨w2.heap.size + 1, 0, none⟩ 1 1 [.string L[k], .int .i64 q0, .int .i64 q1, .int .i64 q2, .slice ao n cap] rfl rfl (cells_five _ _ _ _ _ _ _ _) (by intro u hu; simp at hu; rcases hu with rfl | rfl | rfl | rfl | rfl <;> rfl) (by unfold maxLen; omega) (by omega) (by simp; omega) ?_)
        intro v' w3 hown' hgrow hnil
        have hB3 : Below (w.heap.size + 1) w1 w3 := ((hB2.alloc (by omega) _).alloc (by simp; omega) _).grown hgrow (by simp; omega) (fun j hj => (hown2.lt j hj).1)
        have HR : Hid (LRel w w1 L v' (.int .i64 ((k : Int) + 1)) w3) := by
          have hb2' := below_two w2 (.cells #[.int .i64 q0, .int .i64 q1, .int .i64 q2, .slice ao n cap] 90) (.cells #[.string L[k], .int .i64 q0, .int .i64 q1, .int .i64 q2, .slice ao n cap] 94)
          have kv : ∀ {vv : Value} {x : List (List UInt8) × List (List UInt8)}, VerIs w2 vv x → VerIs w3 vv x := fun h => verIs_grown (h.below hb2') ((hown2.alloc _).alloc _) hgrow
          refine ⟨k + 1, D ++ [ent], by omega, by simp, ⟨?_, ?_, fun e => (by simp at e)⟩, by rw [List.length_append]; simp; omega, lines_step L k hlt D HD.out ent HEt.out HPn.out, hB3⟩
          · rw [List.length_append, List.flatMap_append, List.flatMap_singleton, HEn.out]; exact hown'
          · intro e he
            rcases List.mem_append.1 he with he | he
            · exact ⟨(HF2.out.good e he).1, kv (HF2.out.good e he).2⟩
            · rw [List.mem_singleton.1 he]
              exact ⟨by rw [HEt.out]; exact HPn.out, kv HV.out⟩
        clear hown' hgrow hnil hown2 hB2 hB3
        go_wp2
        go_roundw
        case rel => exact HR.out
        case measure => simp [intOf]; omega
      · have HR : Hid (LRel w w1 L _ (.int .i64 ((k : Int) + 1)) (w2.alloc (.cells #[.int .i64 0, .int .i64 0, .int .i64 0, .slice none 0 0] 90))) :=
          ⟨k + 1, D, by omega, by simp, HF2.out.below (below_one _ _), by omega, lines_skip L k hlt D HD.out hx, hB2.alloc (by omega) _⟩
        clear hx hc hB2
        go_wp2
        go_roundw
        case rel => exact HR.out
        case measure => simp [intOf]; omega
    · have hlt' : ¬ (k : Int) < (L.length : Int) := by omega
      have HDl : Hid (D.map Ent.txt = lines s.data.toList) := by
        show _ = _
        rw [HD.out, List.take_of_length_le (by omega), HL.out]; rfl
      have HLs : Hid (∀ z ∈ lines s.data.toList, parseV z ≠ none) := fun z hz => by
        have := (List.mem_filter.1 hz).2
        intro e; rw [e] at this; cases this
      have hD1 : D.length ≤ 1048577 := by omega
      have HTx : Hid (∀ e ∈ D, e.t.size ≤ 1048576) := fun e he => by
        have h1 : e.txt ∈ D.map Ent.txt := List.mem_map_of_mem he
        rw [HDl.out] at h1
        have h2 := (List.mem_filter.1 h1).1
        rw [← HL.out] at h2
        obtain ⟨p, hp, hpe⟩ := List.mem_map.1 h2
        have h3 := HP.out p hp
        have h4 : e.t.data.toList.length = p.data.toList.length := congrArg List.length hpe.symm
        rw [size_len, size_len] at h4
        omega
      clear HD
      by_cases hne : D = []
      · subst hne
        have hv := HF.out.none' rfl
        subst hv
        have HFin : Hid (LPost s w (.returned (.slice none 0 0)) wr) := ⟨_, [], rfl, by
          have e : lines s.data.toList = [] := HDl.out.symm
          unfold listP; rw [e]; rfl, Own.nil _ _, hBw, fun _ => rfl, Nat.zero_le _⟩
        go_wp2_with fail
        refine (sort_none _ wr).mono ?_
        rintro e w4 ⟨rfl, rfl⟩
        go_wp2_with fail
        refine (compact_nil w4 _).mono ?_
        rintro e w5 ⟨rfl, rfl⟩
        go_wp2
        go_loopw [8, 38] (fun v i wx => v = .slice none 0 0 ∧ i = .int .i64 0 ∧ wx = w5) (fun _ _ _ => 0)
        case atStart => exact ⟨rfl, rfl, rfl⟩
        case round =>
          obtain ⟨rfl, rfl, rfl⟩ := hrel
          go_wp2
          go_ret
          exact HFin.out
      · obtain ⟨g, cap, hv, hbg, hcap, hblk, hrow⟩ := found_row HF.out hne
        subst hv
        have hgl : g < wr.heap.size := by obtain ⟨c, hc⟩ := hblk; exact lt_of_block hc
        have hsort := sort_walk wr g cap D hne (fun e he => HF.out.good e he) hrow hblk (by omega)
        go_wp2_with fail
        refine hsort.mono ?_
        rintro e w4 ⟨rfl, D', hperm, hsrt, hrow4, hg4⟩
        have hlen : D'.length = D.length := hperm.length_eq
        have hgl4 : g < w4.heap.size := Nat.lt_of_lt_of_le hgl hg4.size
        have hcomp := compact_walk w4 g cap D' hrow4 hgl4 (by omega) (by omega)
        rw [hlen] at hcomp
        go_wp2_with fail
        refine hcomp.mono ?_
        rintro e w5 ⟨d2, rfl, hd2, hrow5, hg5⟩
        have hB5 : Below w.heap.size w w5 := by
          refine hBw.grown (grown_trans hg4 hg5) (by omega) (fun j hj => ?_)
          injection hj with hj
          omega
        have HTot : Hid (d2.map Ent.txt = listP s.data.toList) := list_math HDl.out HLs.out hperm hsrt hd2
        have HT2 : Hid (∀ e ∈ d2, e.t.size ≤ 1048576) := fun e he => by
          have h1 : e.txt ∈ d2.map Ent.txt := List.mem_map_of_mem he
          rw [hd2] at h1
          have h2 : e.txt ∈ D'.map Ent.txt := once_mem h1
          have h3 : e.txt ∈ D.map Ent.txt := (hperm.map Ent.txt).mem_iff.1 h2
          obtain ⟨p, hp, hpe⟩ := List.mem_map.1 h3
          have h4 := HTx.out p hp
          have h5 : e.t.data.toList.length = p.t.data.toList.length := congrArg List.length hpe.symm
          rw [size_len, size_len] at h5
          omega
        have hd2l : d2.length ≤ 1048577 := by
          have h1 := congrArg List.length hd2
          rw [List.length_map] at h1
          have h2 := once_len (D'.map Ent.txt)
          rw [List.length_map] at h2
          omega
        have hg5l : g < w5.heap.size := Nat.lt_of_lt_of_le hgl4 hg5.size
        obtain ⟨B, HBs⟩ : ∃ B, Hid (w5.heap.size = B) := ⟨_, rfl⟩
        have hgB : g < B := by rw [← HBs.out]; exact hg5l
        have hwB : w.heap.size ≤ B := by rw [← HBs.out]; exact hB5.size
        have HR0 : Hid (TRel w B g d2 (.slice none 0 0) (.int .i64 0) w5) := ⟨0, [], Nat.zero_le _, rfl, Own.nil _ _, rfl, rfl, hrow5, hB5, by rw [HBs.out]; exact Nat.le_refl _, fun _ => rfl⟩
        obtain ⟨j0, hj0, hy0, hy1, hy2⟩ := info_parts strInfo'
        clear hrow5 hg5 hB5 hd2 hrow4 hg4 hsrt hperm hrow hblk hsort hcomp HF hBw
        go_wp2
        go_loopw [8, 38] (fun v i wx => TRel w B g d2 v i wx) (fun _ i _ => d2.length - (intOf i).toNat)
        case atStart => exact HR0.out
        case round =>
          clear HR0
          obtain ⟨k, T, hk, rfl, hO, hTl, hTm, hrw, hBx, hBs, hTn⟩ := hrel
          have HO : Hid (OwnL strv wr B _ T) := hO
          have HTm : Hid (T.map (·.data.toList) = (d2.take k).map Ent.txt) := hTm
          have HTl : Hid (T.length = k) := hTl
          have HRw : Hid (RowOf g d2 wr) := hrw
          clear hO hTm hTl
          by_cases hlt : k < d2.length
          · have hlt' : (k : Int) < (d2.length : Int) := by omega
            obtain ⟨x0, x1, x2, x3, x4⟩ := row_cells hrw k hlt
            obtain ⟨x, hx⟩ : ∃ x, x = d2[k] := ⟨_, rfl⟩
            rw [← hx] at x0 x1 x2 x3 x4
            have hxs : x.t.size ≤ 1048576 := by rw [hx]; exact HT2.out _ (List.getElem_mem hlt)
            have HX : Hid (x = d2[k]) := hx
            clear hx hrw
            obtain ⟨t3, q03, q13, q23, ao3, n13, cp3⟩ := x
            simp only at x0 x1 x2 x3 x4 hxs
            go_wp2_with fail
            refine (clone_walk t3 _ hxs).mono ?_
            rintro e w6 ⟨rfl, hb6⟩
            have hb6' : Below wr.heap.size wr w6 := (below_one wr _).trans (hb6.mono (by simp))
            have HO6 : Hid (OwnL strv w6 B _ T) := HO.out.step hb6'
            have HR6 : Hid (RowOf g d2 w6) := row_below HRw.out hb6' (by omega)
            have hB6 : Below w.heap.size w w6 := hBx.trans (hb6'.mono (by omega))
            have hz6 : B ≤ w6.heap.size := Nat.le_trans hBs hb6'.size
            have ho := HO6.out
            clear hb6 hb6' x0 x1 x2 x3 x4
            go_wp2_with (at_builtin; refine wpList_append_one strv strv_one rfl _ _ 39 rfl B 9 j0 (.string ⟨#[]⟩) 16 Tryz.underlying39 hj0 hy0 hy1 hy2 rfl _ T k HTl.out t3 rfl (ho.step (below_one _ _)) w6.heap.size rfl (by rw [World.cell?_alloc_at _ _ _ _ rfl]; rfl) (by omega) (by decide) (by simp; omega) ?_)
            intro g6 cap6 w7 ho7 hb7
            have HF : Hid (TRel w B g d2 (.slice (some ⟨g6, 0, none⟩) (k + 1) cap6) (.int .i64 ((k : Int) + 1)) w7) := by
              have hb67 : Below B w6 w7 := ((Below.refl B w6).alloc hz6 _).trans hb7
              refine ⟨k + 1, T ++ [t3], by omega, by simp, ho7, by rw [List.length_append, HTl.out]; rfl, ?_, row_below HR6.out hb67 hgB, hB6.trans (hb67.mono hwB), Nat.le_trans hz6 hb67.size, fun e => (by simp at e)⟩
              rw [List.map_append, HTm.out, List.take_succ_eq_append_getElem hlt, List.map_append, ← HX.out]
              rfl
            clear ho7 hb7 ho
            go_wp2
            go_roundw
            case rel => exact HF.out
            case measure => simp [intOf]; omega
          · have hlt' : ¬ (k : Int) < (d2.length : Int) := by omega
            have HFin : Hid (LPost s w (.returned _) wr) := ⟨_, T, rfl, by rw [HTm.out, List.take_of_length_le (by omega)]; exact HTot.out, own_mono HO.out hwB, hBx, hTn, by have := HTl.out; omega⟩
            go_wp2
            go_ret
            exact HFin.out
end Go.Proofs.YtfngjfnakokgmaaGreatDoor
/- The document's own split, of longer texts. -/
namespace Go.Proofs.YtfngjfnakokgmaaGreatDoor
open Go.RowKit
set_option maxRecDepth 100000 in
set_option maxHeartbeats 2000000 in
theorem refSplitN_walk (s : ByteArray) (x : UInt8) (w : World) (hs : s.size ≤ 1048576) :
    Calls Tryz.prog 17 #[.string s, .int .u8 x.toNat] w fun e w' => ∃ (L : List ByteArray) (v : Value), L.map (·.data.toList) = splC x s.data.toList ∧ L.length ≤ 1048577 ∧ e = .returned v ∧ w'.ownsRow w.heap.size 9 1 v L.length (L.map Value.string) ∧ Below w.heap.size w w' := by
  obtain ⟨i0, hi, hz0, hz1, hz2⟩ := info_parts strInfo
  go_enter Tryz.func17, Tryz.ntmps17
  go_wp2
  go_loopw [5, 6, 7] (fun v j i wr => ∃ (k m : Nat) (L : List ByteArray), k ≤ s.size + 1 ∧ m ≤ k ∧ L.length ≤ k ∧ i = .int .i64 k ∧ j = .int .i64 m ∧ wr.ownsRow w.heap.size 9 1 v L.length (L.map Value.string) ∧ Below w.heap.size w wr ∧
      Hid ((k ≤ s.size ∧ L.map (·.data.toList) ++ splC x (s.data.toList.drop m) = splC x s.data.toList ∧ x ∉ (s.data.toList.drop m).take (k - m)) ∨ (k = s.size + 1 ∧ L.map (·.data.toList) = splC x s.data.toList))) (fun _ _ i _ => s.size + 1 - (intOf i).toNat)
  case atStart => exact ⟨0, 0, [], Nat.zero_le _, Nat.le_refl _, Nat.le_refl _, rfl, rfl, World.ownsRow_nil _ _ _ _, Below.refl _ _, Or.inl ⟨Nat.zero_le _, rfl, by simp⟩⟩
  case round =>
    obtain ⟨k, m, L, hk, hmk, hLk, rfl, rfl, hown, hB, HX⟩ := hrel
    have hsz := hB.size
    by_cases hend : k ≤ s.size
    · by_cases he : k = s.size
      · have hb : ((k : Int) == (s.size : Int)) = true := by rw [beq_iff_eq]; omega
        have hle : (k : Int) ≤ (s.size : Int) := by omega
        clear he
        have HY : Hid ((L ++ [s.extract m k]).map (·.data.toList) = splC x s.data.toList) := by
          rcases HX.out with ⟨_, h1, h2⟩ | ⟨h1, _⟩
          · exact piece_end x s m k L (by have := beq_iff_eq.1 hb; omega) hmk h1 h2
          · omega
        have HK : Hid (k + 1 = s.size + 1) := by show _ = _; have := beq_iff_eq.1 hb; omega
        clear HX
        go_wp2_with (at_builtin; refine wpList_append_own _ rfl _ _ 39 rfl w.heap.size 9 i0 (.string ⟨#[]⟩) 1 16 Tryz.underlying39 hi hz0 hz1 hz2 rfl (by decide) _ _ _ rfl (hown.alloc _) ⟨wr.heap.size, 0, none⟩ 1 1 [.string (s.extract m k)] rfl rfl (cells_new1 _ _ _) (fun u hu => by simp at hu; subst hu; rfl) (by unfold maxLen; omega) (by omega) (by simp; omega) ?_)
        intro v' w2 hown' hgrow _
        have hB2 : Below w.heap.size w w2 := (hB.alloc hsz _).grown hgrow (by simp; omega) (fun j hj => (hown.lt j hj).1)
        clear hgrow
        go_wp2
        go_roundw
        case rel => exact ⟨k + 1, k + 1, L ++ [s.extract m k], by omega, Nat.le_refl _, by simp; omega, by go_num, by go_num, by simpa using hown', hB2, Or.inr ⟨HK.out, HY.out⟩⟩
        case measure => simp [intOf]; omega
      · have hlt : k < s.size := by omega
        have hb : ((k : Int) == (s.size : Int)) = false := by rw [beq_eq_false_iff_ne]; omega
        have hu := u8_beq s[k] x
        clear he
        have HX1 : Hid (L.map (·.data.toList) ++ splC x (s.data.toList.drop m) = splC x s.data.toList ∧ x ∉ (s.data.toList.drop m).take (k - m)) := by
          rcases HX.out with ⟨_, h1, h2⟩ | ⟨h1, _⟩
          · exact ⟨h1, h2⟩
          · omega
        clear HX
        by_cases hc : s[k] = x
        · have hc' : (s[k] == x) = true := by simpa using hc
          rw [hc'] at hu
          have HY : Hid ((L ++ [s.extract m k]).map (·.data.toList) ++ splC x (s.data.toList.drop (k + 1)) = splC x s.data.toList) := piece_more x s m k L hlt hmk hc HX1.out.1 HX1.out.2
          clear hc hc' HX1
          go_wp2_with (at_builtin; refine wpList_append_own _ rfl _ _ 39 rfl w.heap.size 9 i0 (.string ⟨#[]⟩) 1 16 Tryz.underlying39 hi hz0 hz1 hz2 rfl (by decide) _ _ _ rfl (hown.alloc _) ⟨wr.heap.size, 0, none⟩ 1 1 [.string (s.extract m k)] rfl rfl (cells_new1 _ _ _) (fun u hu => by simp at hu; subst hu; rfl) (by unfold maxLen; omega) (by omega) (by simp; omega) ?_)
          intro v' w2 hown' hgrow _
          have hB2 : Below w.heap.size w w2 := (hB.alloc hsz _).grown hgrow (by simp; omega) (fun j hj => (hown.lt j hj).1)
          clear hgrow
          go_wp2
          go_roundw
          case rel => exact ⟨k + 1, k + 1, L ++ [s.extract m k], by omega, Nat.le_refl _, by simp; omega, by go_num, by go_num, by simpa using hown', hB2, Or.inl ⟨by omega, HY.out, by simp⟩⟩
          case measure => simp [intOf]; omega
        · have hc' : (s[k] == x) = false := by simpa using hc
          rw [hc'] at hu
          have HY : Hid (x ∉ (s.data.toList.drop m).take (k + 1 - m)) := piece_skip x s m k hlt hmk hc HX1.out.2
          clear hc hc'
          go_wp2
          go_roundw
          case rel => exact ⟨k + 1, m, L, by omega, by omega, by omega, by go_num, rfl, hown, hB, Or.inl ⟨by omega, HX1.out.1, HY.out⟩⟩
          case measure => simp [intOf]; omega
    · have HY : Hid (L.map (·.data.toList) = splC x s.data.toList) := by
        rcases HX.out with ⟨h0, _⟩ | ⟨_, h1⟩
        · exact absurd h0 hend
        · exact h1
      clear HX
      go_wp2
      go_ret
      exact ⟨L, _, HY.out, by omega, rfl, hown, hB⟩
end Go.Proofs.YtfngjfnakokgmaaGreatDoor
