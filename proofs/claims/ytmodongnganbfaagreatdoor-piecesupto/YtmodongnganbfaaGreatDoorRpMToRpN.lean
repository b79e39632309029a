/- Replies: the program's parseNumber, checkCoding. -/
import Derived.Test.YtmodongnganbfaaGreatDoorRpL
import Derived.Test.YtmodongnganbfaaGreatDoorRdM
import Derived.BigQuiet
import Derived.Test.YtmodongnganbfaaGreatDoorReadMath
import Derived.Lib.IndexMore
import Derived.Lib.IndexBytes
namespace Go.Proofs.YtmodongnganbfaaGreatDoor.Rep
open Go.RowKit Go.Proofs.YtmodongnganbfaaGreatDoor Go.Proofs.YtmodongnganbfaaGreatDoor.Sha Go.Proofs.YtmodongnganbfaaGreatDoor.Inf
/-- How parseNumber ends. -/
def NumE (r : Option Nat) (e : Ending) : Prop := match r with
  | some v => e = .returned (.tuple #[.int .i64 (v : Int), .nilIface])
  | none => ∃ t x, e = .returned (.tuple #[.int .i64 0, .iface t x])
set_option maxHeartbeats 2000000 in
theorem parseNumber_walk (s : ByteArray) (ad : Nat → Addr) (B : Nat) (w : World) (hW : RepW ad B w) (hs : s.size ≤ 1000) :
    Calls Tryz.prog 83 #[.string s] w fun e w' => NumE (few s.data.toList) e ∧ Below w.heap.size w w' := by
  have gn := hW.number
  have hlen := size_len s
  clear hW
  by_cases h0 : s = ⟨#[]⟩
  · subst h0
    have HF : Hid (few (ByteArray.mk #[]).data.toList = none) := by show _ = _; rfl
    clear hlen
    go_enter Tryz.func83, Tryz.ntmps83
    go_wp2_with fail
    go_quiet (fail)
    go_wp2
    go_ret2
    refine ⟨?_, below_drewN _⟩
    rw [HF.out]
    exact ⟨_, _, rfl⟩
  · have hne : s.data.toList ≠ [] := by
      intro e; apply h0
      cases s with
      | mk d => cases d with
        | mk l => simp at e; subst e; rfl
    have t0 : (s.toList == []) = false := by rw [ByteArray.toList_eq, beq_eq_false_iff_ne]; exact hne
    by_cases h9 : 9 < s.size
    · have h9' : (9 : Int) < (s.size : Int) := by omega
      have HF : Hid (few s.data.toList = none) := by show _ = _; exact few_no (.inr (.inr (by omega)))
      clear hlen hne h0
      go_enter Tryz.func83, Tryz.ntmps83
      go_wp2_with fail
      go_quiet (fail)
      go_wp2
      go_ret2
      refine ⟨?_, below_drewN _⟩
      rw [HF.out]
      exact ⟨_, _, rfl⟩
    · have h9' : ¬ (9 : Int) < (s.size : Int) := by omega
      have HL : Hid (s.data.toList.length = s.size) := hlen
      have Hne : Hid (s.data.toList ≠ []) := hne
      clear hne h0 hlen
      go_enter Tryz.func83, Tryz.ntmps83
      go_wp2
      go_loop [4, 16] (fun v i => ∃ k n : Nat, k ≤ s.size ∧ i = .int .i64 k ∧ v = .int .i64 (n : Int) ∧ Hid (n = numOf (s.data.toList.take k) ∧ (s.data.toList.take k).all isDigit = true) ∧ n < 1000000000) (fun _ i => s.size - (intOf i).toNat)
      case atStart => exact ⟨0, 0, Nat.zero_le _, rfl, rfl, ⟨rfl, rfl⟩, by decide⟩
      case round =>
        obtain ⟨k, n, hk, rfl, rfl, HN, hn⟩ := hrel
        by_cases hlt : k < s.size
        · have HT : Hid (s.data.toList.take (k + 1) = s.data.toList.take k ++ [s[k]]) := take_snoc s k hlt
          have HIt := isDigit_n s[k].toNat w s[k].toNat_lt
          rw [← dig_is] at HIt
          cases hdig : isDigit s[k] with
          | true =>
            rw [hdig] at HIt
            have hd1 : 48 ≤ s[k].toNat ∧ s[k].toNat ≤ 57 := isDigit_iff hdig
            obtain ⟨hd1, hd2⟩ := hd1
            have HN' : Hid ((10 * n + (s[k].toNat - 48) = numOf (s.data.toList.take (k + 1)) ∧ (s.data.toList.take (k + 1)).all isDigit = true) ∧ 10 * n + (s[k].toNat - 48) < 1000000000) := by
              have e1 : 10 * n + (s[k].toNat - 48) = numOf (s.data.toList.take (k + 1)) := by rw [HT.out, numOf_snoc, ← HN.out.1]
              have e2 : (s.data.toList.take (k + 1)).all isDigit = true := by rw [HT.out, List.all_append, HN.out.2]; simp [hdig]
              refine ⟨⟨e1, e2⟩, ?_⟩
              rw [e1]
              exact numOf_lt _ e2 (by rw [List.length_take]; omega)
            have g1 : (48 : Int) ≤ (s[k].toNat : Int) := by omega
            have g2 : (s[k].toNat : Int) ≤ 57 := by omega
            clear hdig
            go_wp2_with fail
            refine HIt.mono ?_
            rintro e w2 ⟨rfl, rfl⟩
            go_wp2
            go_round
            case rel => exact ⟨k + 1, 10 * n + (s[k].toNat - 48), by omega, by go_num, by go_num, HN'.out.1, HN'.out.2⟩
            case measure => simp [intOf]; omega
          | false =>
            rw [hdig] at HIt
            have HF : Hid (few s.data.toList = none) := by
              show _ = _
              refine few_no (.inl ?_)
              rw [List.all_eq_false]
              exact ⟨s[k], List.getElem_mem (l := s.data.toList) (n := k) (by rw [HL.out]; exact hlt), by rw [hdig]; decide⟩
            clear hdig
            go_wp2_with fail
            refine HIt.mono ?_
            rintro e w2 ⟨rfl, rfl⟩
            go_wp2_with fail
            go_quiet (fail)
            go_wp2
            go_ret2
            refine ⟨?_, below_drewN _⟩
            rw [HF.out]
            exact ⟨_, _, rfl⟩
        · have HR : Hid (few s.data.toList = some n) := by
            show _ = _
            have e : s.data.toList.take k = s.data.toList := List.take_of_length_le (by rw [HL.out]; omega)
            have h2 := HN.out
            rw [e] at h2
            rw [few_yes h2.2 Hne.out (by rw [HL.out]; omega), h2.1]
          go_wp2
          go_ret2
          refine ⟨?_, Below.refl _ _⟩
          rw [HR.out]
          rfl
theorem lower_is (l : Bytes) : Lib.toLowerA l = smaller l := by
  have all : ∀ n : Fin 256, Lib.lowerB (UInt8.ofNat n.val) = small (UInt8.ofNat n.val) := by decide +kernel
  unfold Lib.toLowerA smaller
  refine List.map_congr_left fun c _ => ?_
  have := all ⟨c.toNat, c.toNat_lt⟩
  simpa using this
theorem lower_text (s : ByteArray) (w : World) (hs : s.size ≤ 1000) (ht : ∀ c ∈ s.data.toList, c.toNat < 128) :
    Calls Tryz.prog 82 #[.string s] w fun e w' => e = .returned (.string ⟨(smaller s.data.toList).toArray⟩) ∧ Below w.heap.size w w' := by
  rw [← lower_is]
  exact Tryz.strings_ToLower_ascii s w (by omega) (fun j b hj => ht b (List.mem_of_getElem? hj))
theorem text_ascii {c : UInt8} (h : isText c = true) : c.toNat < 128 := by unfold isText at h; simp at h; omega
theorem name_ascii {c : UInt8} (h : isNameByte c = true) : c.toNat < 128 := by
  have all : ∀ n : Fin 256, isNameByte (UInt8.ofNat n.val) = true → (UInt8.ofNat n.val).toNat < 128 := by decide +kernel
  have := all ⟨c.toNat, c.toNat_lt⟩
  simp only [UInt8.ofNat_toNat] at this
  exact this h
/-- How checkCoding ends. -/
def CodE (r : Option Unit) (e : Ending) : Prop := match r with
  | some _ => e = .returned .nilIface
  | none => ∃ t x, e = .returned (.iface t x)
theorem checkCoding_walk (s : ByteArray) (ad : Nat → Addr) (B : Nat) (w : World) (hW : RepW ad B w) (hs : s.size ≤ 1000) (ht : ∀ c ∈ s.data.toList, isText c = true) :
    Calls Tryz.prog 84 #[.string s] w fun e w' => CodE (coding s.data.toList) e ∧ Below w.heap.size w w' := by
  have HC := lower_text s w hs (fun c hc => text_ascii (ht c hc))
  have HW : Hid (RepW ad B w) := hW
  by_cases h : smaller s.data.toList = Rep.chunked
  · have HF : Hid (coding s.data.toList = some ()) := by show _ = _; unfold coding; rw [if_pos h]
    have te : (smaller s.data.toList == [99, 104, 117, 110, 107, 101, 100]) = true := beq_iff_eq.2 h
    clear hW ht h
    go_enter Tryz.func84, Tryz.ntmps84
    go_wp2_with fail
    refine HC.mono ?_
    rintro e w1 ⟨rfl, hb⟩
    go_wp2
    go_ret
    refine ⟨?_, hb⟩
    rw [HF.out]
    exact rfl
  · have HF : Hid (coding s.data.toList = none) := by show _ = _; unfold coding; rw [if_neg h]
    have te : (smaller s.data.toList == [99, 104, 117, 110, 107, 101, 100]) = false := beq_eq_false_iff_ne.2 h
    clear hW ht h
    go_enter Tryz.func84, Tryz.ntmps84
    go_wp2_with fail
    refine HC.mono ?_
    rintro e w1 ⟨rfl, hb⟩
    have gc := cell_below hb HW.out.coding
    go_wp2
    go_ret
    refine ⟨?_, hb⟩
    rw [HF.out]
    exact ⟨_, _, rfl⟩
end Go.Proofs.YtmodongnganbfaaGreatDoor.Rep
/- Replies: a range of bytes, cut as the library cuts; a head's fields, told by the cells that the program keeps of them. -/
namespace Go.Proofs.YtmodongnganbfaaGreatDoor.Rep
open Go.Lib
theorem cutAt_miss (x : UInt8) : ∀ (l : List UInt8), indexByte l x = -1 → cutAt x l = (l, none)
  | [], _ => rfl
  | b :: l, h => by
    unfold indexByte at h
    by_cases hb : (b == x) = true
    · rw [if_pos hb] at h; cases h
    · rw [if_neg hb] at h
      have hge := indexByte_ge l x
      by_cases hl : (indexByte l x == -1) = true
      · have := cutAt_miss x l (beq_iff_eq.1 hl)
        unfold cutAt
        rw [if_neg (by simpa using hb), this]
      · rw [if_neg hl] at h; omega
theorem cutAt_hit (x : UInt8) : ∀ (l : List UInt8) (i : Nat), indexByte l x = (i : Int) → cutAt x l = (l.take i, some (l.drop (i + 1)))
  | [], i, h => by unfold indexByte at h; omega
  | b :: l, i, h => by
    unfold indexByte at h
    by_cases hb : (b == x) = true
    · rw [if_pos hb] at h
      have : i = 0 := by omega
      subst this
      have hb' : b = x := by simpa using hb
      unfold cutAt
      simp [hb']
    · rw [if_neg hb] at h
      have hge := indexByte_ge l x
      by_cases hl : (indexByte l x == -1) = true
      · rw [if_pos hl] at h; omega
      · rw [if_neg hl] at h
        have hne : ¬ indexByte l x = -1 := by simpa using hl
        obtain ⟨j, rfl⟩ : ∃ j, i = j + 1 := ⟨i - 1, by omega⟩
        have ih := cutAt_hit x l j (by omega)
        unfold cutAt
        rw [if_neg (by simpa using hb), ih]
        simp
theorem cut_cutAt (x : UInt8) (l : List UInt8) : Lib.cut l [x] = ((cutAt x l).1, (cutAt x l).2.getD [], (cutAt x l).2.isSome) := by
  have hge := index_ge l [x]
  have h1 : index l [x] = indexByte l x := index_one l x
  unfold Lib.cut
  by_cases hm : index l [x] = -1
  · rw [if_neg (by omega), cutAt_miss x l (by rw [← h1]; exact hm)]
    rfl
  · obtain ⟨i, hi⟩ : ∃ i : Nat, index l [x] = (i : Int) := ⟨(index l [x]).toNat, by omega⟩
    rw [if_pos (by omega), hi, cutAt_hit x l i (by rw [← h1]; exact hi)]
    simp
theorem cutAt_len (x : UInt8) (l : List UInt8) : (cutAt x l).1.length ≤ l.length ∧ ((cutAt x l).2.getD []).length ≤ l.length := by
  induction l with
  | nil => exact ⟨Nat.le_refl _, Nat.le_refl _⟩
  | cons c r ih =>
    unfold cutAt
    split
    · simp
    · simp; omega
def bytesSp : Bytes := [98, 121, 116, 101, 115, 32]
/-- The range's three numbers held against each other. -/
def spanOf (x y t : Option Nat) : Option Span := match x, y, t with
  | some a, some b, some t => if a ≤ b ∧ b < t then some ⟨a, b, t⟩ else none
  | _, _, _ => none
/-- The three texts of a range, behind its unit. -/
def sX (l : Bytes) : Bytes := (cutAt 45 (cutAt 47 l).1).1
def sY (l : Bytes) : Bytes := (cutAt 45 (cutAt 47 l).1).2.getD []
def sT (l : Bytes) : Bytes := (cutAt 47 l).2.getD []
theorem span_eq (l : Bytes) : Rep.span (bytesSp ++ l) = spanOf (few (sX l)) (few (sY l)) (few (sT l)) := by
  unfold Rep.span sX sY sT
  rw [if_pos (by rfl)]
  have e : (bytesSp ++ l).drop 6 = l := rfl
  rw [e]
  rcases h1 : cutAt 47 l with ⟨b, t⟩
  simp only []
  rcases h2 : cutAt 45 b with ⟨x, y⟩
  have fn : few [] = none := rfl
  cases t with
  | none =>
    simp only [Option.getD_none, fn]
    unfold spanOf
    cases few x <;> cases few (y.getD []) <;> rfl
  | some t =>
    simp only [Option.getD_some]
    cases y with
    | none =>
      rw [h2]
      simp only [Option.getD_none, fn]
      unfold spanOf
      cases few x <;> rfl
    | some y =>
      rw [h2]
      rfl
theorem span_noB (l : Bytes) (h : Lib.hasPrefix l bytesSp = false) : Rep.span l = none := by
  unfold Rep.span
  rw [if_neg]
  intro e
  have : bytesSp <+: l := ⟨l.drop 6, by rw [show bytesSp = l.take 6 from e.symm]; exact List.take_append_drop 6 l⟩
  have h2 : Lib.hasPrefix l bytesSp = true := by unfold Lib.hasPrefix; exact List.isPrefixOf_iff_prefix.2 this
  rw [h2] at h; cases h
theorem prefix_yes (l : Bytes) (h : Lib.hasPrefix l bytesSp = true) : ∃ r, l = bytesSp ++ r ∧ Lib.trimPrefix l bytesSp = r := by
  have h1 : bytesSp <+: l := List.isPrefixOf_iff_prefix.1 h
  obtain ⟨r, rfl⟩ := h1
  refine ⟨r, rfl, ?_⟩
  unfold Lib.trimPrefix
  rw [if_pos h]
  rfl
end Go.Proofs.YtmodongnganbfaaGreatDoor.Rep
/- Replies: the document's machine at the head's end and within a body; the head that the program keeps. -/
namespace Go.Proofs.YtmodongnganbfaaGreatDoor.Rep
open Go.RowKit Go.Proofs.YtmodongnganbfaaGreatDoor Go.Proofs.YtmodongnganbfaaGreatDoor.Sha Go.Proofs.YtmodongnganbfaaGreatDoor.Inf
/-- What the program keeps of a head's fields. -/
def hdN (st : Nat) (s : Note) : Hd := ⟨st, s.length.isSome, s.length.getD 0, s.coded.isSome, s.tag.isSome, s.tag.getD [], s.span.isSome, (s.span.map (·.first)).getD 0, (s.span.map (·.last)).getD 0, (s.span.map (·.total)).getD 0⟩
/-- The document's machine behind a head. -/
def hmc (st u : Nat) (nm vl : Bytes) (fs : List (Bytes × Bytes)) (s : Note) : Mc := { lmm (fmm st 0) 4 14 u nm vl fs with headed := true, tag := s.head.tag, span := s.span }
/-- Which body follows. -/
def nextM (st : Nat) (s : Note) (M : Mc) : Option Mc :=
  if !hasBody st then some { M with at' := 14 }
  else if s.coded.isSome then some { M with at' := 8, used := 0, start := 0, size := 0 }
  else match s.length with
    | some 0 => done M
    | some n => some { M with at' := 12, size := n }
    | none => some { M with at' := 13 }
theorem head_fed {limit st u0 u : Nat} {nm vl : Bytes} {fs : List (Bytes × Bytes)} (hu : u < 400) : feed limit (lmm (fmm st u0) 4 14 u nm vl fs) 10 = (notes Note.none (fs.map lowF)).bind fun s => if fits st limit s.head then nextM st s (hmc st (u + 1) nm vl fs s) else none := by
  unfold feed
  rw [if_neg (by intro h; have : 400 ≤ u := h.2; omega)]
  show headed limit (lmm (fmm st 0) 4 14 (u + 1) nm vl fs) = _
  unfold headed
  have e : (lmm (fmm st 0) 4 14 (u + 1) nm vl fs).fields = fs.map lowF := rfl
  rw [e, ← notes_head]
  cases notes Note.none (fs.map lowF) with
  | none => rfl
  | some s => rfl
theorem hmc_tells (st u : Nat) (nm vl : Bytes) (fs : List (Bytes × Bytes)) (s : Note) : Tells (hmc st u nm vl fs s) (hdN st s) [] := by
  refine .inl ⟨rfl, rfl, rfl, rfl, fun h => ?_⟩
  unfold frOf totOf
  rw [if_pos h, if_pos h]
  exact ⟨rfl, rfl⟩
/-- May the head stand, told by the program's cells. -/
def fitsH (limit : Nat) (h : Hd) : Bool := !(h.hasLength && h.chunked) && !(h.status == 206 && !h.hasRange) && !(hasBody h.status && (decide (limit < h.length) || decide (limit < h.total)))
theorem fits_hd (st limit : Nat) (s : Note) : fits st limit s.head = fitsH limit (hdN st s) := by
  unfold fits fitsH hdN Note.head
  simp only []
  cases s.span <;> rfl
structure NoteOk (s : Note) : Prop where
  len : ∀ n, s.length = some n → n < 1000000000
  spn : ∀ x, s.span = some x → x.first ≤ x.last ∧ x.last < x.total ∧ x.total < 1000000000
theorem noteOk_none : NoteOk Note.none := ⟨fun _ h => (by cases h), fun _ h => (by cases h)⟩
theorem once_some {α : Type} {f : Bytes → Option α} {old : Option α} {v : Bytes} {x : Option α} (h : once f old v = some x) : old = none ∧ ∃ y, f v = some y ∧ x = some y := by
  unfold once at h
  cases old with
  | some o => simp at h
  | none =>
    simp at h
    obtain ⟨y, h1, h2⟩ := h
    exact ⟨rfl, y, h1, h2.symm⟩
theorem note_ok {s s' : Note} {f : Bytes × Bytes} (g : NoteOk s) (h : note s f = some s') : NoteOk s' := by
  unfold note at h
  split at h
  · obtain ⟨x, h1, rfl⟩ := Option.map_eq_some_iff.1 h
    obtain ⟨_, y, hy, rfl⟩ := once_some h1
    exact ⟨fun n e => by cases e; exact few_lt hy, g.spn⟩
  · split at h
    · obtain ⟨x, h1, rfl⟩ := Option.map_eq_some_iff.1 h
      exact ⟨g.len, g.spn⟩
    · split at h
      · obtain ⟨x, h1, rfl⟩ := Option.map_eq_some_iff.1 h
        exact ⟨g.len, g.spn⟩
      · split at h
        · obtain ⟨x, h1, rfl⟩ := Option.map_eq_some_iff.1 h
          obtain ⟨_, y, hy, rfl⟩ := once_some h1
          exact ⟨g.len, fun n e => by cases e; exact span_lt hy⟩
        · injection h with h; subst h; exact g
theorem hdN_bounds {st : Nat} {s : Note} (g : NoteOk s) : (hdN st s).length < 1000000000 ∧ (hdN st s).first ≤ (hdN st s).last ∧ (hdN st s).last < 1000000000 ∧ (hdN st s).total < 1000000000 := by
  unfold hdN
  simp only []
  refine ⟨?_, ?_⟩
  · cases h : s.length with
    | none => decide
    | some n => exact g.len n h
  · cases h : s.span with
    | none => decide
    | some x => have := g.spn x h; simp only [Option.map_some, Option.getD_some]; omega
/-- A byte of a counted piece. -/
theorem feed_pass {limit : Nat} {M : Mc} {c : UInt8} (ha : M.at' = 10 ∨ M.at' = 12) (hk : 1 < M.size) : feed limit M c = some { M with body := M.body ++ [c], size := M.size - 1 } := by
  have hc : counts M = false := by unfold counts; rcases ha with e | e <;> rw [e] <;> rfl
  unfold feed
  rw [if_neg (by rw [hc]; intro h; cases h.1)]
  simp only [hc, Bool.false_eq_true, if_false]
  rw [if_neg (by omega), if_neg (by omega), if_neg (by omega), if_neg (by omega)]
  unfold inBody
  rcases ha with e | e
  · rw [if_pos e, if_neg (by omega)]
  · rw [if_neg (by omega), if_neg (by omega), if_pos e, if_neg (by omega)]
theorem feed_pass10 {limit : Nat} {M : Mc} {c : UInt8} (ha : M.at' = 10) (hk : M.size = 1) : feed limit M c = some { M with body := M.body ++ [c], size := 0, at' := 11 } := by
  have hc : counts M = false := by unfold counts; rw [ha]; rfl
  unfold feed
  rw [if_neg (by rw [hc]; intro h; cases h.1)]
  simp only [hc, Bool.false_eq_true, if_false]
  rw [if_neg (by omega), if_neg (by omega), if_neg (by omega), if_neg (by omega)]
  unfold inBody
  rw [if_pos ha, if_pos (by omega), hk]
theorem feed_pass12 {limit : Nat} {M : Mc} {c : UInt8} (ha : M.at' = 12) (hk : M.size = 1) : feed limit M c = done { M with body := M.body ++ [c], size := 0 } := by
  have hc : counts M = false := by unfold counts; rw [ha]; rfl
  unfold feed
  rw [if_neg (by rw [hc]; intro h; cases h.1)]
  simp only [hc, Bool.false_eq_true, if_false]
  rw [if_neg (by omega), if_neg (by omega), if_neg (by omega), if_neg (by omega)]
  unfold inBody
  rw [if_neg (by omega), if_neg (by omega), if_pos ha, if_pos (by omega), hk]
theorem feed_close {limit : Nat} {M : Mc} {c : UInt8} (ha : M.at' = 13) : feed limit M c = if limit ≤ M.body.length then none else some { M with body := M.body ++ [c] } := by
  have hc : counts M = false := by unfold counts; rw [ha]; rfl
  unfold feed
  rw [if_neg (by rw [hc]; intro h; cases h.1)]
  simp only [hc, Bool.false_eq_true, if_false]
  rw [if_neg (by omega), if_neg (by omega), if_neg (by omega), if_neg (by omega)]
  unfold inBody
  rw [if_neg (by omega), if_neg (by omega), if_neg (by omega), if_pos ha]
theorem feed_11 {limit : Nat} {M : Mc} {c : UInt8} (ha : M.at' = 11) : feed limit M c = if c = 13 then some { M with at' := 4, thn := 8 } else none := by
  have hc : counts M = false := by unfold counts; rw [ha]; rfl
  unfold feed
  rw [if_neg (by rw [hc]; intro h; cases h.1)]
  simp only [hc, Bool.false_eq_true, if_false]
  rw [if_neg (by omega), if_neg (by omega), if_neg (by omega), if_neg (by omega)]
  unfold inBody
  rw [if_neg (by omega), if_pos ha]
theorem feed_48 {limit : Nat} {M : Mc} {c : UInt8} (ha : M.at' = 4) (ht : M.thn = 8) : feed limit M c = if c = 10 then some { M with at' := 8, start := 0, size := 0 } else none := by
  have hc : counts M = false := by unfold counts; rw [ha, ht]; rfl
  unfold feed
  rw [if_neg (by rw [hc]; intro h; cases h.1)]
  simp only [hc, Bool.false_eq_true, if_false]
  rw [if_neg (by omega), if_pos ha]
  have e : lineEnd limit M = some { M with at' := 8, start := 0, size := 0 } := by
    unfold lineEnd
    rw [if_neg (show ¬ M.thn = 5 by omega), if_pos ht]
  rw [e]
theorem feed_sized {limit : Nat} {M : Mc} (ha : M.at' = 4) (ht : M.thn = 10) (hu : M.used < 400) : feed limit M 10 = sized limit { M with used := M.used + 1 } := by
  have hc : counts M = true := by unfold counts; rw [ha, ht]; rfl
  unfold feed
  rw [if_neg (by omega)]
  simp only [hc, if_true]
  rw [if_neg (by omega), if_pos ha]
  unfold lineEnd
  rw [if_neg (by rw [ht]; decide), if_neg (by rw [ht]; decide), if_pos ht]
theorem feed_tail {limit : Nat} {M : Mc} (ha : M.at' = 4) (ht : M.thn = 14) (htl : M.tail = true) (hu : M.used < 400) : feed limit M 10 = done { M with used := M.used + 1 } := by
  have hc : counts M = true := by unfold counts; rw [ha, ht]; rfl
  unfold feed
  rw [if_neg (by omega)]
  simp only [hc, if_true]
  rw [if_neg (by omega), if_pos ha]
  unfold lineEnd
  rw [if_neg (by rw [ht]; decide), if_neg (by rw [ht]; decide), if_neg (by rw [ht]; decide), if_pos ht]
  rw [if_pos htl]
/-- A complete body is told at once. -/
theorem after_done {limit : Nat} {M : Mc} {W : Wire} : (match done M with | none => (⟨none, W.ticks⟩ : Res) | some m' => goOn limit m' W) = ⟨done M, W.ticks⟩ := by
  cases h : done M with
  | none => rfl
  | some m' =>
    have h14 : m'.at' = 14 := by
      unfold done at h
      split at h
      · cases h
      · injection h with h; rw [← h]
    exact goOn_end h14
end Go.Proofs.YtmodongnganbfaaGreatDoor.Rep
