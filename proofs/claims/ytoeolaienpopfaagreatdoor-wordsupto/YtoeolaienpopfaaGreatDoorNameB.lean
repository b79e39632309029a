/- names.CheckName and satchel.CheckName: they tell what the plain nameOk tells, of every text. -/
import Derived.Test.YtoeolaienpopfaaGreatDoorNameA
namespace Go.Proofs.YtoeolaienpopfaaGreatDoor
open Go.RowKit

theorem nameOk_long {s : ByteArray} (h : 60 < s.size) : nameOk s.data.toList = false := by
  rw [nameOk, size_len, decide_eq_false (by omega), Bool.false_and]
theorem nameOk_el {s : ByteArray} {L : List ByteArray} (hL : L.map (·.data.toList) = splC 47 s.data.toList) (k : Nat) (hk : k < L.length) (h : elOk L[k].data.toList = false) : nameOk s.data.toList = false := by
  have : (splC 47 s.data.toList).all elOk = false := by
    rw [← hL, ← Bool.not_eq_true]
    intro hh
    have := List.all_eq_true.1 hh L[k].data.toList (List.mem_map_of_mem (List.getElem_mem hk))
    rw [h] at this
    cases this
  rw [nameOk, this, Bool.and_false]
theorem nameOk_all {s : ByteArray} {L : List ByteArray} (hL : L.map (·.data.toList) = splC 47 s.data.toList) (hs : s.size ≤ 60) (h : ∀ p ∈ L, elOk p.data.toList = true) : nameOk s.data.toList = true := by
  have : (splC 47 s.data.toList).all elOk = true := by
    rw [← hL, List.all_eq_true]
    intro p hp
    obtain ⟨q, hq, rfl⟩ := List.mem_map.1 hp
    exact h q hq
  rw [nameOk, this, size_len, decide_eq_true (by omega)]; rfl
theorem take_all_snoc {L : List ByteArray} {k : Nat} (hk : k < L.length) {f : ByteArray → Prop} (h : ∀ p ∈ L.take k, f p) (hx : f L[k]) : ∀ p ∈ L.take (k + 1), f p := by
  rw [List.take_succ_eq_append_getElem hk]
  intro p hp
  rcases List.mem_append.1 hp with hp | hp
  · exact h p hp
  · rw [List.mem_singleton.1 hp]; exact hx

/-- How names.CheckName ends. -/
theorem checkName_walk (s : ByteArray) (w : World) (ad : Nat → Addr) (m : Int) (hs : s.size ≤ 1099511627776) (hW : NameW ad m w) :
    Calls Tryz.prog 16 #[.string s] w fun e w' => ((nameOk s.data.toList = true ∧ e = .returned .nilIface) ∨ (nameOk s.data.toList = false ∧ ∃ b, e = .returned (.iface 54 (.pointer (some ⟨b, 0, none⟩))) ∧ w'.cell? ⟨b, 0, none⟩ = some (.iface 142 (.pointer (some (ad 3)))))) ∧ Below w.heap.size w w' := by
  by_cases hlong : 60 < s.size
  · obtain ⟨x1, e1⟩ := hW.v.long
    have e0 := hW.s.c3
    have HN : Hid (nameOk s.data.toList = false) := nameOk_long hlong
    go_enter Tryz.func16, Tryz.ntmps16
    go_wp2_with fail
    refine (faultOf_any _ _ _).mono ?_
    rintro e w' ⟨rfl, rfl⟩
    go_wp2
    go_ret
    exact ⟨Or.inr ⟨HN.out, _, rfl, by simp⟩, below_one _ _⟩
  · have HMax := hW.v.maxLen
    go_enter Tryz.func16, Tryz.ntmps16
    go_wp2_with fail
    refine (split_slash s m _ (by omega) HMax).mono ?_
    rintro e w1 ⟨L, hL, hp, hl, rfl, rfl⟩
    have HL : Hid (L.map (·.data.toList) = splC 47 s.data.toList) := hL
    have HP : Hid (∀ p ∈ L, p.size ≤ 100) := hp
    have hB := below_one w (.cells (L.map Value.string).toArray 9)
    have hW1 := hW.below hB
    have HC : Hid (∀ k (hk : k < L.length), (w.alloc (.cells (L.map Value.string).toArray 9)).cell? ⟨w.heap.size, k, none⟩ = some (.string L[k])) := by
      intro k hk
      rw [World.cell?_alloc_at _ _ _ _ rfl]
      simp [hk]
    have hz : w.heap.size < (w.alloc (.cells (L.map Value.string).toArray 9)).heap.size := by simp
    obtain ⟨n0, hn0⟩ : ∃ n, n = w.heap.size := ⟨_, rfl⟩
    generalize hw1 : w.alloc (.cells (L.map Value.string).toArray 9) = w1 at *
    have e0 := hW1.s.c3
    clear hL HMax hp hw1
    go_wp2
    go_loop [15] (fun i => ∃ k : Nat, k ≤ L.length ∧ i = .int .i64 k ∧ Hid (∀ p ∈ L.take k, elOk p.data.toList = true)) (fun i => L.length - (intOf i).toNat)
    case atStart => exact ⟨0, Nat.zero_le _, rfl, by intro p hp; simp at hp⟩
    case round =>
      obtain ⟨k, hk, rfl, HA⟩ := hrel
      by_cases hlt : k < L.length
      · have hcell := HC.out k hlt
        have hq := HP.out L[k] (List.getElem_mem hlt)
        go_wp2_with fail
        refine (checkElement_walk L[k] _ ad m (by omega) hW1).mono ?_
        rintro e w' ⟨he, rfl⟩
        rcases he with ⟨hel, rfl⟩ | ⟨hel, x, rfl⟩
        · have HA' : Hid (∀ p ∈ L.take (k + 1), elOk p.data.toList = true) := take_all_snoc hlt HA.out hel
          clear hel
          go_wp2
          go_round
          case rel => exact ⟨k + 1, by omega, by go_num, HA'⟩
          case measure => simp [intOf]; omega
        · have HN : Hid (nameOk s.data.toList = false) := nameOk_el HL.out k hlt hel
          clear hel
          go_wp2_with fail
          refine (faultOf_any _ _ _).mono ?_
          rintro e w' ⟨rfl, rfl⟩
          go_wp2
          go_ret
          exact ⟨Or.inr ⟨HN.out, _, rfl, by simp⟩, hB.alloc (by omega) _⟩
      · have HN : Hid (nameOk s.data.toList = true) := nameOk_all HL.out (by omega) (by
          have := HA.out
          rwa [List.take_of_length_le (by omega)] at this)
        go_wp2
        go_ret
        exact ⟨Or.inl ⟨HN.out, rfl⟩, hB⟩

theorem face_checkName (s : ByteArray) (w : World) (ad : Nat → Addr) (m : Int) (hs : s.size ≤ 1099511627776) (hW : NameW ad m w) :
    Calls Tryz.prog 4 #[.string s] w fun e w' => e = .returned (.int .i64 (nameNo s.data.toList)) ∧ Below w.heap.size w w' := by
  go_enter Tryz.func4, Tryz.ntmps4
  go_wp2_with fail
  refine (checkName_walk s w ad m hs hW).mono ?_
  rintro e w1 ⟨he, hb1⟩
  have hS1 := (hW.below hb1).s
  have hz1 := hb1.size
  rcases he with ⟨hx, rfl⟩ | ⟨hx, b, rfl, hc⟩
  · have HX : Hid (nameNo s.data.toList = 0) := by show _ = _; rw [nameNo, if_pos hx]
    clear hx
    go_wp2_with fail
    refine (number_nil _).mono ?_
    rintro e w' ⟨rfl, rfl⟩
    go_wp2
    go_ret
    exact ⟨by rw [HX.out]; rfl, hb1⟩
  · have HX : Hid (nameNo s.data.toList = 4) := by show _ = _; rw [nameNo, if_neg (by rw [hx]; decide)]
    clear hx
    go_wp2_with fail
    refine (number_name b ad _ hS1 hc).mono ?_
    rintro e w2 ⟨rfl, hb2⟩
    go_wp2
    go_ret
    exact ⟨by rw [HX.out]; rfl, hb1.trans (hb2.mono hz1)⟩
end Go.Proofs.YtoeolaienpopfaaGreatDoor
