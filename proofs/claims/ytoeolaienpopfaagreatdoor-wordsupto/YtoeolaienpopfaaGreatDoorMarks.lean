/- names.parseMarks: what it answers of every text of at most 100 bytes; the marks lie in new memory. -/
import Derived.Test.YtoeolaienpopfaaGreatDoorNumbers
namespace Go.Proofs.YtoeolaienpopfaaGreatDoor
open Go.RowKit

/-- A mark's three cells. -/
def mcell (b : ByteArray) : List Value := [.string b, .bool (isNum b.data.toList), .int .i64 (if isNum b.data.toList then val b.data.toList else 0)]
/-- A slice of marks lies in memory. -/
def MarksAt (w : World) (v : Value) (L : List ByteArray) : Prop := ∃ base, L.length ≤ 101 ∧ w.ownsRow base 97 3 v L.length (L.flatMap mcell)
theorem grown_of_below {w w' : World} (h : Below w.heap.size w w') : w.grownBy w' none := ⟨h.os, h.tape, h.output, h.size, fun k hk _ => h.block k hk⟩
theorem own_below {w w' : World} {base : Nat} {e : TypeId} {size : Nat} {v : Value} {n : Nat} {xs : List Value} (h : w.ownsRow base e size v n xs) (hb : Below w.heap.size w w') : w'.ownsRow base e size v n xs :=
  h.kept (grown_of_below hb) (by cases hv : v.ownBlock <;> simp)
theorem MarksAt.below {w w' : World} {v : Value} {L : List ByteArray} (h : MarksAt w v L) (hb : Below w.heap.size w w') : MarksAt w' v L := by
  obtain ⟨base, hl, h⟩ := h; exact ⟨base, hl, own_below h hb⟩

/-- How parseMarks ends. -/
def MarksEnd (l : List UInt8) (e : Ending) (w' : World) : Prop :=
  (∃ (L : List ByteArray) (v : Value), L.map (·.data.toList) = spl l ∧ (spl l).all markOk = true ∧ e = .returned (.tuple #[v, .nilIface]) ∧ MarksAt w' v L) ∨
  ((spl l).all markOk = false ∧ ∃ x, e = .returned (.tuple #[.slice none 0 0, .iface 142 x]))

theorem markInfo : (Tryz.prog.info? 97).map (fun i => (i.zero, i.size, i.bytes)) = some (some (.agg #[.string ⟨#[]⟩, .bool false, .int .i64 0]), 3, 32) := by kernel_rfl
theorem flat_snoc (L : List ByteArray) (k : Nat) (h : k < L.length) : (L.take (k + 1)).flatMap mcell = (L.take k).flatMap mcell ++ mcell L[k] := by
  rw [List.take_succ_eq_append_getElem h, List.flatMap_append]; simp
theorem cells_new3 (w : World) (o : Obj) (a b c : Value) (t : TypeId) : ∀ j u, [a, b, c][j]? = some u → ((w.alloc o).alloc (.cells #[a, b, c] t)).cell? ((⟨w.heap.size + 1, 0, none⟩ : Addr).add j) = some u := by
  intro j u hj
  match j, hj with
  | 0, hj => simp at hj; subst hj; simp [Addr.add]
  | 1, hj => simp at hj; subst hj; simp [Addr.add]
  | 2, hj => simp at hj; subst hj; simp [Addr.add]

set_option maxHeartbeats 2000000 in
set_option maxRecDepth 100000 in
theorem parseMarks_walk (s : ByteArray) (w : World) (a0 a1 : Addr) (m : Int) (hs : s.size ≤ 100) (hW : VerW a0 a1 m w) :
    Calls Tryz.prog 68 #[.string s] w fun e w' => MarksEnd s.data.toList e w' ∧ Below w.heap.size w w' := by
  obtain ⟨i0, hi, hz0, hz1, hz2⟩ := info_parts markInfo
  have HMax := hW.maxLen
  go_enter Tryz.func68, Tryz.ntmps68
  go_wp2_with fail
  refine (split_dot s m _ hs HMax).mono ?_
  rintro e w1 ⟨L, hL, hp, hl, rfl, rfl⟩
  have HL : Hid (L.map (·.data.toList) = spl s.data.toList) := hL
  have HP : Hid (∀ p ∈ L, p.size ≤ 100) := hp
  clear hL HMax hp
  go_wp2
  go_loopw [4, 12] (fun v i wr => ∃ k : Nat, k ≤ L.length ∧ i = .int .i64 k ∧ wr.ownsRow (w.heap.size + 1) 97 3 v k ((L.take k).flatMap mcell) ∧ Below (w.heap.size + 1) (w.alloc (.cells (L.map Value.string).toArray 9)) wr ∧ Hid (∀ p ∈ L.take k, markOk p.data.toList = true)) (fun _ i _ => L.length - (intOf i).toNat)
  case atStart =>
    exact ⟨0, Nat.zero_le _, rfl, World.ownsRow_nil _ _ _ _, Below.refl _ _, by intro p hp; simp at hp⟩
  case round =>
    obtain ⟨k, hk, rfl, hown, hB, HM⟩ := hrel
    have hBw : Below w.heap.size w wr := (below_one w _).trans (hB.mono (by simp))
    have hV := hW.below hBw
    have hsz := hB.size
    simp only [World.size_alloc] at hsz
    by_cases hlt : k < L.length
    · have hcell : wr.cell? ⟨w.heap.size, k, none⟩ = some (.string L[k]) := by
        rw [hB.cell (p := ⟨w.heap.size, k, none⟩) (by simp), World.cell?_alloc_at _ _ _ _ rfl]
        simp [hlt]
      have hq := HP.out L[k] (List.getElem_mem hlt)
      have HF : Hid ((L.take (k + 1)).flatMap mcell = (L.take k).flatMap mcell ++ mcell L[k]) := flat_snoc L k hlt
      go_wp2_with fail
      refine (parseMark_walk L[k] wr a0 a1 m (by omega) hV).mono ?_
      rintro e w1 ⟨he, hb1⟩
      have hB1 := hB.trans (hb1.mono hsz)
      have hown1 := own_below hown hb1
      have hz := hb1.size
      have hBw1 : Below w.heap.size w w1 := hBw.trans (hb1.mono (by omega))
      clear hown hB hBw hV hb1 hcell
      rcases he with ⟨hn, he⟩ | ⟨hn, x, rfl⟩
      · obtain ⟨bb, hbb⟩ : ∃ b, b = isNum L[k].data.toList := ⟨_, rfl⟩
        obtain ⟨vv, hvv⟩ : ∃ v, v = (if isNum L[k].data.toList then val L[k].data.toList else 0) := ⟨_, rfl⟩
        have HMC : Hid (mcell L[k] = [.string L[k], .bool bb, .int .i64 vv]) := by show _ = _; rw [mcell, hbb, hvv]
        rw [← hvv, ← hbb] at he
        clear hbb hvv
        subst he
        have HM' : Hid (∀ p ∈ L.take (k + 1), markOk p.data.toList = true) := by
          show ∀ p ∈ _, _
          rw [List.take_succ_eq_append_getElem hlt]
          intro p hp
          rcases List.mem_append.1 hp with hp | hp
          · exact HM.out p hp
          · rw [List.mem_singleton.1 hp]; exact hn
        clear hn HM
        go_wp2_with (at_builtin; refine wpList_append_own _ rfl _ _ 62 rfl (w.heap.size + 1) 97 i0 (.agg #[.string ⟨#[]⟩, .bool false, .int .i64 0]) 3 32 Tryz.underlying62 hi hz0 hz1 hz2 rfl (by decide) _ _ _ rfl ((hown1.alloc _).alloc _) ⟨w1.heap.size + 1, 0, none⟩ 1 1 [.string L[k], .bool bb, .int .i64 vv] rfl rfl (cells_new3 _ _ _ _ _ _) (by intro u hu; simp at hu; rcases hu with rfl | rfl | rfl <;> rfl) (by unfold maxLen; omega) (by omega) (by simp; omega) ?_)
        intro v' w2 hown' hgrow _
        have hB2 : Below (w.heap.size + 1) (w.alloc (.cells (L.map Value.string).toArray 9)) w2 := ((hB1.alloc (by omega) _).alloc (by simp; omega) _).grown hgrow (by simp; omega) (fun j hj => (hown1.lt j hj).1)
        clear hgrow
        go_wp2
        go_roundw
        case rel => exact ⟨k + 1, by omega, by go_num, by rw [HF.out, HMC.out]; exact hown', hB2, HM'⟩
        case measure => simp [intOf]; omega
      · have HN : Hid ((spl s.data.toList).all markOk = false) := by
          show _ = _
          rw [← HL.out, ← Bool.not_eq_true]
          intro h
          have := List.all_eq_true.1 h L[k].data.toList (List.mem_map_of_mem (List.getElem_mem hlt))
          rw [hn] at this
          cases this
        clear hn HM
        go_wp2
        go_ret2
        exact ⟨Or.inr ⟨HN.out, _, rfl⟩, hBw1.alloc (by omega) _⟩
    · have ht : L.take k = L := List.take_of_length_le (by omega)
      have hkl : k = L.length := by omega
      have HO : Hid ((spl s.data.toList).all markOk = true) := by
        show _ = _
        rw [← HL.out, List.all_eq_true]
        intro p hp
        obtain ⟨q, hq, rfl⟩ := List.mem_map.1 hp
        exact HM.out q (by rw [ht]; exact hq)
      rw [ht] at hown
      have HK : Hid (k = L.length) := hkl
      clear ht hkl HM hV
      go_wp2
      go_ret2
      exact ⟨Or.inl ⟨L, _, HL.out, HO.out, rfl, w.heap.size + 1, hl, by rw [← HK.out]; exact hown⟩, hBw⟩
end Go.Proofs.YtoeolaienpopfaaGreatDoor
