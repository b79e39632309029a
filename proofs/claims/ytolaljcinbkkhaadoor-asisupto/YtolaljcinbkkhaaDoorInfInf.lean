/- deflate.Inflate at a text whose blocks are not packed. -/
import Derived.Test.YtolaljcinbkkhaaDoorInfRun
import Derived.Test.YtolaljcinbkkhaaDoorSent
namespace Go.Proofs.YtolaljcinbkkhaaDoor.Inf
open Go.RowKit Go.Proofs.YtolaljcinbkkhaaDoor.Sha

theorem below_of_kept {w w' : World} {o : Obj} (h : Kept w.heap.size (w.heap.size + 1) (w.alloc o) w') : Below w.heap.size w w' := by
  have hb := below_one w o
  refine ⟨h.os.trans hb.os, h.tape.trans hb.tape, h.output.trans hb.output, Nat.le_trans hb.size h.size, fun k hk => ?_⟩
  rw [h.block k (by omega) (by omega)]; exact hb.block k hk
theorem DefW.below {w w' : World} (h : DefW w) (hb : Below w.heap.size w w') : DefW w' := by
  obtain ⟨⟨x1, h1⟩, ⟨x2, h2⟩, ⟨x3, h3⟩, ⟨x4, h4⟩, ⟨x5, h5⟩, ⟨x6, h6⟩⟩ := h
  exact ⟨⟨x1, cell_below hb h1⟩, ⟨x2, cell_below hb h2⟩, ⟨x3, cell_below hb h3⟩, ⟨x4, cell_below hb h4⟩, ⟨x5, cell_below hb h5⟩, ⟨x6, cell_below hb h6⟩⟩
theorem fresh_machine (w : World) (s : ByteArray) (most : Nat) (t : TypeId) :
    MW w.heap.size (w.heap.size + 1) s 0 [] most false (w.alloc (.cells #[.string s, .int .i64 0, .int .i64 0, .slice none 0 0, .int .i64 (most : Int), .nilIface] t)) := by
  refine ⟨?_, ?_, ?_, ⟨_, ?_, Own.nil _ _⟩, ?_, ⟨_, ?_, rfl⟩, fun j => ?_, by omega, by simp⟩
  all_goals first | (simp [World.cell?_alloc_at]; done) | (simp; done) | trace_state
theorem faultOf_any (x y : Value) (w : World) : Calls Tryd.prog 19 #[.iface 131 x, .iface 131 y] w fun e w' => e = .returned (.iface 55 (.pointer (some ⟨w.heap.size, 0, none⟩))) ∧ Below w.heap.size w w' ∧ w'.cell? ⟨w.heap.size, 0, none⟩ = some (.iface 131 x) := by
  go_enter Tryd.func19, Tryd.ntmps19
  go_wp2
  go_ret
  exact ⟨rfl, below_one _ _, by simp⟩
theorem conv_nil (w : World) : (convert 43 9 (.slice none 0 0)).run Tryd.prog w = .ok (.string ⟨#[]⟩) w := by kernel_rfl
theorem own_string {w : World} {base : Nat} {v : Value} {l : List UInt8} (h : OwnL u8v w base v l) : (convert 43 9 v).run Tryd.prog w = .ok (.string ⟨l.toArray⟩) w := by
  rcases h with ⟨hv, h⟩ | ⟨g, cap, hv, h1, h2, h3, hc, h4⟩
  · rw [List.map_eq_nil_iff.1 h, hv]; exact conv_nil w
  · rw [hv, List.length_map]
    refine run_convert_bytes_back w 43 9 5 ⟨g, 0, none⟩ cap l Tryd.underlying43 Tryd.underlying5 Tryd.underlying9 (fun j hj => ?_)
    have := hc j (u8v l[j]) (by simp [hj])
    rw [Addr.add_lit, Nat.zero_add]
    exact this
set_option maxRecDepth 100000 in
set_option maxHeartbeats 4000000 in
theorem inflate_stored (b : Nat) (R : Option (Nat × List UInt8)) (s : ByteArray) (most : Nat) (ad : Nat → Addr) (w : World) (hS : Sent ad w) (hD : DefW w) (hg : 23 ≤ w.heap.size) (hs : s.size ≤ 140737488355328) (hm2 : most ≤ 8000) (HRun : Hid (Run s most (b + 1) 0 [] R)) :
    Calls Tryd.prog 11 #[.string s, .int .i64 (most : Int)] w fun e w' => Below w.heap.size w w' ∧ ((∃ p o, Hid (R = some (p, o) ∧ endP s p) ∧ e = .returned (.tuple #[.string ⟨o.toArray⟩, .nilIface])) ∨ (Hid (∀ p o, R = some (p, o) → ¬ endP s p) ∧ ∃ k, e = .returned (.tuple #[.string ⟨#[]⟩, .iface 55 (.pointer (some ⟨k, 0, none⟩))]) ∧ w'.cell? ⟨k, 0, none⟩ = some (.iface 131 (.pointer (some (ad 3)))))) := by
  have h0 : ¬ (most : Int) < 0 := by omega
  have h1 : ¬ (8000 : Int) < (most : Int) := by omega
  go_enter Tryd.func11, Tryd.ntmps11
  go_wp2_with fail
  refine (run_walk b R (fresh_machine w s most _) hs (by omega) (by simp) hm2 (hD.below (below_one _ _)) hg HRun).mono ?_
  rintro e w1 ⟨rfl, a1, b1, o, bd, hM, hK, HR⟩
  have hB := below_of_kept hK
  have hS1 := hS.below hB
  have hc3 := hS1.c3
  obtain ⟨ev, c5, he⟩ := hM.c5
  cases bd with
  | true =>
    obtain ⟨x, rfl⟩ := he
    have HN : Hid (∀ p o, R = some (p, o) → ¬ endP s p) := fun p o h he => by
      have := ((HR.out.2 p o h).2).2 he; cases this
    clear hM hK HRun hD
    go_wp2_with fail
    refine (faultOf_any _ _ _).mono ?_
    rintro e w2 ⟨rfl, hB2, hc⟩
    have HB := hB.trans (hB2.mono hB.size)
    clear hB hB2
    go_wp2
    go_ret2
    exact ⟨HB, .inr ⟨HN, _, rfl, hc⟩⟩
  | false =>
    cases he
    obtain ⟨v, c3, ho⟩ := hM.c3
    obtain ⟨p, HP⟩ : ∃ p, Hid (R = some (p, o) ∧ endP s p) := by
      rcases hR : R with _ | ⟨p, o'⟩
      · have := HR.out.1 hR; cases this
      · obtain ⟨e1, e2⟩ := HR.out.2 p o' hR
        exact ⟨p, by rw [e1], e2.1 rfl⟩
    have hcv := own_string ho
    clear hK HRun hD
    go_wp2
    go_ret2
    exact ⟨hB, .inl ⟨p, o, HP, rfl⟩⟩
end Go.Proofs.YtolaljcinbkkhaaDoor.Inf
