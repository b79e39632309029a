/- Replies: the program's class. -/
import Derived.Test.YtmodongnganbfaaGreatDoorRpWToRpX
namespace Go.Proofs.YtmodongnganbfaaGreatDoor.Rep
open Go.RowKit Go.Proofs.YtmodongnganbfaaGreatDoor Go.Proofs.YtmodongnganbfaaGreatDoor.Sha Go.Proofs.YtmodongnganbfaaGreatDoor.Inf
set_option maxRecDepth 100000 in
theorem as_nil (t : TypeId) (x : Value) (w : World) : Calls Tryz.prog 49 #[.nilIface, .iface t x] w fun e w' => e = .returned (.bool false) ∧ w' = w := by
  go_enter Tryz.func49, Tryz.ntmps49
  go_wp2
  go_ret
  exact ⟨rfl, rfl⟩
/-- errors.As, where the target is the newest block. -/
theorem as_newR (e : Addr) (w : World) (hg : w.cell? ⟨7, 0, none⟩ = some (.iface 125 (.agg #[.pointer (some ⟨22, 50, none⟩)]))) :
    Calls Tryz.prog 49 #[.iface 75 (.pointer (some e)), .iface 77 (.pointer (some ⟨w.heap.size, 0, none⟩))] (w.alloc (.cells #[.pointer none] 75)) fun ev w' => ev = .returned (.bool true) ∧ w'.cell? ⟨w.heap.size, 0, none⟩ = some (.pointer (some e)) ∧ Below w.heap.size w w' := by
  have hgA : (w.alloc (.cells #[.pointer none] 75)).cell? ⟨7, 0, none⟩ = some (.iface 125 (.agg #[.pointer (some ⟨22, 50, none⟩)])) := by
    rw [World.cell?_alloc_lt _ _ ⟨7, 0, none⟩ (lt_of_cell hg)]; exact hg
  have htA : (w.alloc (.cells #[.pointer none] 75)).cell? ⟨w.heap.size, 0, none⟩ = some (.pointer none) := by simp
  have hfA : (w.alloc (.cells #[.pointer none] 75)).frozen? ⟨w.heap.size, 0, none⟩ = false := by simp
  refine (as_hit e _ (.pointer none) _ hgA htA hfA).mono ?_
  rintro ev w' ⟨rfl, rfl⟩
  refine ⟨rfl, ?_, ?_⟩
  · refine World.cell?_setCell_same _ _ _ (u := .pointer none) ?_
    rw [World.cell?_alloc_lt _ _ ⟨w.heap.size, 0, none⟩ (by simp; omega), World.cell?_alloc_lt _ _ ⟨w.heap.size, 0, none⟩ (by simp; omega), World.cell?_alloc_lt _ _ ⟨w.heap.size, 0, none⟩ (by simp; omega), World.cell?_alloc_lt _ _ ⟨w.heap.size, 0, none⟩ (by simp), htA]
  · exact (((((((Below.refl _ w).alloc (Nat.le_refl _) _).alloc (by simp) _).alloc (by simp; omega) _).alloc (by simp; omega) _).alloc (by simp; omega) _).setCell (p := ⟨w.heap.size, 0, none⟩) (Nat.le_refl _) _)
theorem classOfFault_same (f : Nat) (a : Addr) (w : World) (hc : w.cell? ⟨f, 0, none⟩ = some (.iface 182 (.pointer (some a)))) (hg : w.cell? ⟨6, 0, none⟩ = some (.iface 182 (.pointer (some a)))) :
    Calls Tryz.prog 50 #[.pointer (some ⟨f, 0, none⟩)] w fun e w' => e = .returned (.int .i64 6) ∧ Below w.heap.size w w' := by
  obtain ⟨i, hi, hcmp⟩ := Option.map_eq_some_iff.1 is_comp
  obtain ⟨j, hj, hjs⟩ := Option.map_eq_some_iff.1 is_size
  have heq : ∀ x, (binOp .eql 50 (.iface 182 (.pointer (some a))) (.iface 182 (.pointer (some a)))).run Tryz.prog (w.drewN x) = .ok (.bool true) (w.drewN x) := fun x => run_eql_iface_ptr_same (P := Tryz.prog) (w.drewN x) a Tryz.underlying50 Tryz.underlying182 hi hcmp hj
  go_enter Tryz.func50, Tryz.ntmps50
  go_wp2_with fail
  go_quiet (fail)
  go_wp2
  go_ret
  exact ⟨rfl, below_drewN _⟩
theorem classOfFault_other (f : Nat) (a b : Addr) (ca cb : Array Value) (ta tb : TypeId) (w : World) (hne : a ≠ b) (ha : w.heap[a.block]? = some (.cells ca ta (0, 0))) (hb : w.heap[b.block]? = some (.cells cb tb (0, 0))) (hc : w.cell? ⟨f, 0, none⟩ = some (.iface 182 (.pointer (some a)))) (hg : w.cell? ⟨6, 0, none⟩ = some (.iface 182 (.pointer (some b)))) :
    Calls Tryz.prog 50 #[.pointer (some ⟨f, 0, none⟩)] w fun e w' => e = .returned (.int .i64 4) ∧ Below w.heap.size w w' := by
  obtain ⟨i, hi, hcmp⟩ := Option.map_eq_some_iff.1 is_comp
  obtain ⟨j, hj, hjs⟩ := Option.map_eq_some_iff.1 is_size
  have heq : ∀ x, (binOp .eql 50 (.iface 182 (.pointer (some a))) (.iface 182 (.pointer (some b)))).run Tryz.prog (w.drewN x) = .ok (.bool false) (w.drewN x) := fun x => run_eql_iface_ptr_other (P := Tryz.prog) (w.drewN x) Tryz.underlying50 Tryz.underlying182 hi hcmp hj (by rw [hjs]; decide) hne ha hb
  clear ha hb
  go_enter Tryz.func50, Tryz.ntmps50
  go_wp2_with fail
  go_quiet (fail)
  go_wp2
  go_ret
  exact ⟨rfl, below_drewN _⟩
set_option maxHeartbeats 2000000 in
set_option maxRecDepth 100000 in
theorem class_fault (f st k c : Nat) (ad : Nat → Addr) (pm B : Nat) (w : World) (hW : RepW ad B w) (hF : FaultAt ad pm k (.iface 75 (.pointer (some ⟨f, 0, none⟩))) w) (hk : (k = 5 ∧ c = 6) ∨ (k = 4 ∧ c = 4)) :
    Calls Tryz.prog 32 #[.int .i64 (st : Int), .iface 75 (.pointer (some ⟨f, 0, none⟩))] w fun e w' => e = .returned (.int .i64 (c : Int)) ∧ Below w.heap.size w w' := by
  obtain ⟨f', ef, hfn, hfl, hfc⟩ := hF
  injection ef with _ ef
  injection ef with ef
  injection ef with ef
  injection ef with ef
  subst ef
  have hg := hW.typ
  have HA := as_newR ⟨f, 0, none⟩ w hg
  have HC : Hid (∀ wx, Below w.heap.size w wx → Calls Tryz.prog 50 #[.pointer (some ⟨f, 0, none⟩)] wx fun e w' => e = .returned (.int .i64 (c : Int)) ∧ Below wx.heap.size wx w') := fun wx hb => by
    have hc' := cell_below hb hfc
    have hg' := cell_below hb hW.broken
    rcases hk with ⟨rfl, rfl⟩ | ⟨rfl, rfl⟩
    · exact classOfFault_same f (ad 5) wx hc' hg'
    · obtain ⟨_, ca, ta, ha⟩ := hW.row 4 (by decide)
      obtain ⟨_, cb, tb, hb'⟩ := hW.row 5 (by decide)
      exact classOfFault_other f (ad 4) (ad 5) ca cb ta tb wx (hW.ne 4 5 (by decide) (by decide) (by decide)) (by rw [hb.block _ (lt_of_block ha)]; exact ha) (by rw [hb.block _ (lt_of_block hb')]; exact hb') hc' hg'
  clear hW hfc hfn hfl hk
  go_enter Tryz.func32, Tryz.ntmps32
  go_wp2_with fail
  refine HA.mono ?_
  rintro e w1 ⟨rfl, ht, hb⟩
  have HC1 := HC.out w1 hb
  have HB1 : Hid (Below w.heap.size w w1) := hb
  clear hb HA hg
  go_wp2_with fail
  refine HC1.mono ?_
  rintro e w2 ⟨rfl, hb2⟩
  have HB2 : Hid (Below w.heap.size w w2) := HB1.out.trans (hb2.mono HB1.out.size)
  clear hb2 HC1
  go_wp2
  go_ret
  exact ⟨rfl, HB2.out⟩
set_option maxHeartbeats 2000000 in
set_option maxRecDepth 100000 in
theorem class_nil (st : Nat) (w : World) : Calls Tryz.prog 32 #[.int .i64 (st : Int), .nilIface] w fun e w' => e = .returned (.int .i64 (classOf st : Int)) ∧ Below w.heap.size w w' := by
  have HA := fun wx => as_nil 77 (.pointer (some ⟨w.heap.size, 0, none⟩)) wx
  by_cases h200 : st = 200
  · have t200 : ((st : Int) == 200) = true := by rw [beq_iff_eq]; omega
    have hv : classOf st = 1 := by unfold classOf; repeat (first | rw [if_pos (by omega)] | rw [if_neg (by omega)])
    rw [hv]
    clear hv h200
    go_enter Tryz.func32, Tryz.ntmps32
    go_wp2_with fail
    refine (HA _).mono ?_
    rintro e w1 ⟨rfl, rfl⟩
    go_wp2
    go_ret
    exact ⟨rfl, below_one _ _⟩
  have t200 : ((st : Int) == 200) = false := by rw [beq_eq_false_iff_ne]; omega
  by_cases h206 : st = 206
  · have t206 : ((st : Int) == 206) = true := by rw [beq_iff_eq]; omega
    have hv : classOf st = 2 := by unfold classOf; repeat (first | rw [if_pos (by omega)] | rw [if_neg (by omega)])
    rw [hv]
    clear hv h206
    go_enter Tryz.func32, Tryz.ntmps32
    go_wp2_with fail
    refine (HA _).mono ?_
    rintro e w1 ⟨rfl, rfl⟩
    go_wp2
    go_ret
    exact ⟨rfl, below_one _ _⟩
  have t206 : ((st : Int) == 206) = false := by rw [beq_eq_false_iff_ne]; omega
  by_cases h404 : st = 404
  · have t404 : ((st : Int) == 404) = true := by rw [beq_iff_eq]; omega
    have hv : classOf st = 3 := by unfold classOf; repeat (first | rw [if_pos (by omega)] | rw [if_neg (by omega)])
    rw [hv]
    clear hv h404
    go_enter Tryz.func32, Tryz.ntmps32
    go_wp2_with fail
    refine (HA _).mono ?_
    rintro e w1 ⟨rfl, rfl⟩
    go_wp2
    go_ret
    exact ⟨rfl, below_one _ _⟩
  have t404 : ((st : Int) == 404) = false := by rw [beq_eq_false_iff_ne]; omega
  by_cases h410 : st = 410
  · have t410 : ((st : Int) == 410) = true := by rw [beq_iff_eq]; omega
    have hv : classOf st = 3 := by unfold classOf; repeat (first | rw [if_pos (by omega)] | rw [if_neg (by omega)])
    rw [hv]
    clear hv h410
    go_enter Tryz.func32, Tryz.ntmps32
    go_wp2_with fail
    refine (HA _).mono ?_
    rintro e w1 ⟨rfl, rfl⟩
    go_wp2
    go_ret
    exact ⟨rfl, below_one _ _⟩
  have t410 : ((st : Int) == 410) = false := by rw [beq_eq_false_iff_ne]; omega
  by_cases h429 : st = 429
  · have t429 : ((st : Int) == 429) = true := by rw [beq_iff_eq]; omega
    have hv : classOf st = 4 := by unfold classOf; repeat (first | rw [if_pos (by omega)] | rw [if_neg (by omega)])
    rw [hv]
    clear hv h429
    go_enter Tryz.func32, Tryz.ntmps32
    go_wp2_with fail
    refine (HA _).mono ?_
    rintro e w1 ⟨rfl, rfl⟩
    go_wp2
    go_ret
    exact ⟨rfl, below_one _ _⟩
  have t429 : ((st : Int) == 429) = false := by rw [beq_eq_false_iff_ne]; omega
  by_cases h500 : 500 ≤ st
  · have t500 : (500 : Int) ≤ (st : Int) := by omega
    have hv : classOf st = 4 := by unfold classOf; repeat (first | rw [if_pos (by omega)] | rw [if_neg (by omega)])
    rw [hv]
    clear hv
    go_enter Tryz.func32, Tryz.ntmps32
    go_wp2_with fail
    refine (HA _).mono ?_
    rintro e w1 ⟨rfl, rfl⟩
    go_wp2
    go_ret
    exact ⟨rfl, below_one _ _⟩
  have t500 : ¬ (500 : Int) ≤ (st : Int) := by omega
  have hv : classOf st = 5 := by unfold classOf; repeat (first | rw [if_pos (by omega)] | rw [if_neg (by omega)])
  rw [hv]
  clear hv
  go_enter Tryz.func32, Tryz.ntmps32
  go_wp2_with fail
  refine (HA _).mono ?_
  rintro e w1 ⟨rfl, rfl⟩
  go_wp2
  go_ret
  exact ⟨rfl, below_one _ _⟩
theorem classOf_ne (st : Nat) : classOf st ≠ 6 ∧ classOf st ≤ 6 := by
  unfold classOf
  repeat' split
  all_goals decide
end Go.Proofs.YtmodongnganbfaaGreatDoor.Rep
