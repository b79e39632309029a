/- What deflate.Inflate needs besides its machine. -/
import Derived.Test.YtjilhneefbakhaaDoorInfPut
import Derived.Test.YtjilhneefbakhaaDoorSent
namespace Go.Proofs.YtjilhneefbakhaaDoor.Inf
open Go.RowKit Go.Proofs.YtjilhneefbakhaaDoor.Sha

theorem below_of_kept {w w' : World} {o : Obj} (h : Kept w.heap.size (w.heap.size + 1) (w.alloc o) w') : Below w.heap.size w w' := by
  have hb := below_one w o
  refine ⟨h.os.trans hb.os, h.tape.trans hb.tape, h.output.trans hb.output, Nat.le_trans hb.size h.size, fun k hk => ?_⟩
  rw [h.block k (by omega) (by omega)]; exact hb.block k hk
theorem DefW.below {w w' : World} (h : DefW w) (hb : Below w.heap.size w w') : DefW w' := by
  obtain ⟨⟨x1, h1⟩, ⟨x2, h2⟩, ⟨x3, h3⟩, ⟨x4, h4⟩, ⟨x5, h5⟩, ⟨x6, h6⟩, ⟨x7, h7⟩, ⟨x8, h8⟩, ⟨x9, h9⟩, ⟨x10, h10⟩, ⟨x11, h11⟩⟩ := h
  exact ⟨⟨x1, cell_below hb h1⟩, ⟨x2, cell_below hb h2⟩, ⟨x3, cell_below hb h3⟩, ⟨x4, cell_below hb h4⟩, ⟨x5, cell_below hb h5⟩, ⟨x6, cell_below hb h6⟩, ⟨x7, cell_below hb h7⟩, ⟨x8, cell_below hb h8⟩, ⟨x9, cell_below hb h9⟩, ⟨x10, cell_below hb h10⟩, ⟨x11, cell_below hb h11⟩⟩
theorem fresh_machine (w : World) (s : ByteArray) (most : Nat) (t : TypeId) :
    MW w.heap.size (w.heap.size + 1) s 0 [] most false (w.alloc (.cells #[.string s, .int .i64 0, .int .i64 0, .slice none 0 0, .int .i64 (most : Int), .nilIface] t)) := by
  refine ⟨?_, ?_, ?_, ⟨_, ?_, Own.nil _ _⟩, ?_, ⟨_, ?_, rfl⟩, fun j => ?_, by omega, by simp⟩
  all_goals first | (simp [World.cell?_alloc_at]; done) | (simp; done) | trace_state
theorem faultOf_any (x y : Value) (w : World) : Calls Tryd.prog 19 #[.iface 131 x, .iface 131 y] w fun e w' => e = .returned (.iface 55 (.pointer (some ⟨w.heap.size, 0, none⟩))) ∧ Below w.heap.size w w' ∧ w'.cell? ⟨w.heap.size, 0, none⟩ = some (.iface 131 x) := by
  go_enter Tryd.func19, Tryd.ntmps19
  go_wp2
  go_ret
  exact ⟨rfl, below_one _ _, by simp⟩
theorem conv_nil (w : World) : (convert 43 9 (.slice none 0 0)).run Tryd.prog w = .ok (.string ⟨#[]⟩) w := by kernel_rfl
theorem own_string {w : World} {base : Nat} {v : Value} {l : List UInt8} (h : OwnL u8v w base v l) : (convert 43 9 v).run Tryd.prog w = .ok (.string ⟨l.toArray⟩) w := by
  rcases h with ⟨hv, h⟩ | ⟨g, cap, hv, h1, h2, h3, hc, h4⟩
  · rw [List.map_eq_nil_iff.1 h, hv]; exact conv_nil w
  · rw [hv, List.length_map]
    refine run_convert_bytes_back w 43 9 5 ⟨g, 0, none⟩ cap l Tryd.underlying43 Tryd.underlying5 Tryd.underlying9 (fun j hj => ?_)
    have := hc j (u8v l[j]) (by simp [hj])
    rw [Addr.add_lit, Nat.zero_add]
    exact this
end Go.Proofs.YtjilhneefbakhaaDoor.Inf
