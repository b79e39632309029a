/- The machine puts a byte. -/
import Derived.Test.YtjilhneefbakhaaDoorInfTake
import Derived.Test.YtjilhneefbakhaaDoorInfOwn
namespace Go.Proofs.YtjilhneefbakhaaDoor.Inf
open Go.RowKit Go.Proofs.YtjilhneefbakhaaDoor.Sha

theorem own_slice {w : World} {base : Nat} {v : Value} {out : List UInt8} (h : OwnL u8v w base v out) : ∃ ao cap, v = .slice ao out.length cap := by
  rcases h with ⟨h, h2⟩ | ⟨g, cap, h, _⟩
  · have : out = [] := List.map_eq_nil_iff.1 h2
    subst this
    exact ⟨none, 0, h⟩
  · exact ⟨some ⟨g, 0, none⟩, cap, by rw [h, List.length_map]⟩
section
variable {mb base : Nat} {s : ByteArray} {a b : Nat} {out : List UInt8} {most : Nat} {bad : Bool} {w : World}
theorem MA.below (h : MA mb base s a b out most bad w) {w' : World} (hb : Below base w w') (v' : Value) (out' : List UInt8) (hv : OwnL u8v w' base v' out') :
    MA mb base s a b out' most bad (w'.setCell ⟨mb, 3, none⟩ v') := by
  obtain ⟨v, h3, _⟩ := h.c3
  obtain ⟨ev, h5, he⟩ := h.c5
  have cc : ∀ j, w'.cell? ⟨mb, j, none⟩ = w.cell? ⟨mb, j, none⟩ := fun j => hb.cell (p := ⟨mb, j, none⟩) h.lt
  refine ⟨set_ne ((cc 0).trans h.c0) (by decide), set_ne ((cc 1).trans h.c1) (by decide), set_ne ((cc 2).trans h.c2) (by decide), ⟨v', World.cell?_setCell_same _ _ _ ((cc 3).trans h3), own_set hv h.lt⟩, set_ne ((cc 4).trans h.c4) (by decide), ⟨ev, set_ne ((cc 5).trans h5) (by decide), he⟩, fun j => ?_, h.lt, ?_⟩
  · rw [World.frozen?_setCell, hb.frozen (p := ⟨mb, j, none⟩) h.lt]; exact h.fro j
  · have := hb.size; have := h.bl; simp; omega
theorem apt_alloc {w' : World} {v v' : Value} {o : Obj} (h : Apt (w.alloc o) w' v v') : Apt w w' v v' := by
  refine ⟨fun k hk hn => ?_, fun g n c hv hg => h.2 g n c hv (by simp; omega)⟩
  rw [h.1 k (by simp; omega) hn]
  exact (below_one w o).block k hk
theorem kept_put {w' : World} {v v' : Value} {g' n' c' : Nat} (hb : Below base w w') (hl : mb < base) (c3 : w.cell? ⟨mb, 3, none⟩ = some v) (hv' : v' = .slice (some ⟨g', 0, none⟩) n' c') (h : Apt w w' v v') : Kept mb base w (w'.setCell ⟨mb, 3, none⟩ v') := by
  have hc : w'.cell? ⟨mb, 3, none⟩ = some v := by rw [hb.cell (p := ⟨mb, 3, none⟩) hl]; exact c3
  refine ⟨hb.os, hb.tape, hb.output, by simpa using hb.size, fun k hk hn => ?_, fun k hk hn ho => ?_, fun k hk ho => ?_⟩
  · rw [Below.heap_setCell w' ⟨mb, 3, none⟩ v' k hn]; exact hb.block k hk
  · rw [Below.heap_setCell w' ⟨mb, 3, none⟩ v' k hn]
    exact h.1 k hk (fun n c hv => ho ⟨0, n, c, by rw [c3, hv]⟩)
  · obtain ⟨i, n, c, ho⟩ := ho
    rw [World.cell?_setCell_same _ _ _ hc] at ho
    rw [hv'] at ho
    cases ho
    obtain ⟨n2, c2, hv⟩ := h.2 g' n' c' hv' hk
    exact ⟨0, n2, c2, by rw [c3, hv]⟩
set_option maxRecDepth 100000 in
set_option maxHeartbeats 1000000 in
theorem put_walk (c : UInt8) (h : MA mb base s a b out most bad w) (hm : out.length ≤ most) (hm2 : most ≤ 8000) (hD : DefW w) :
    Calls Tryd.prog 45 #[.pointer (some ⟨mb, 0, none⟩), .int .u8 (c.toNat : Int)] w fun e w' => e = .returned (.tuple #[]) ∧ Kept mb base w w' ∧ Hid ((out.length = most → MA mb base s a b out most true w') ∧ (out.length ≠ most → MA mb base s a b (out ++ [c]) most bad w')) := by
  obtain ⟨i0, hi, hz0, hz1, hz2⟩ := info_parts u8Info
  obtain ⟨v, c3, ho⟩ := h.c3
  obtain ⟨ao, cap, hv⟩ := own_slice ho
  subst hv
  have c4 := h.c4
  have HH : Hid (MA mb base s a b out most bad w) := h
  obtain ⟨L, HL⟩ : ∃ L, Hid (out.length = L) := ⟨_, rfl⟩
  rw [HL.out] at c3 ho hm ⊢
  by_cases he : L = most
  · have heq : ((L : Int) == (most : Int)) = true := by simp; omega
    obtain ⟨x, hx⟩ := hD.long
    have HE : Hid (L = most) := he
    clear h he
    go_enter Tryd.func45, Tryd.ntmps45
    go_wp2_with fail
    go_quiet (fail)
    have h1 := HH.out.drew nq
    have k1 : Kept mb base w (w.drewN nq) := Kept.drew nq
    have hx1 : (w.drewN nq).cell? ⟨29, 0, none⟩ = some (.iface 131 x) := hx
    clear c3 c4 hx ho
    generalize w.drewN nq = w1 at *
    go_wp2_with fail
    refine (fail_walk x h1).mono ?_
    rintro e w2 ⟨rfl, h2, k2⟩
    have HK := k1.trans k2
    have HM2 : Hid (MA mb base s a b out most true w2) := h2
    clear h1 h2 hx1 k1 k2
    go_wp2
    exact bodyPost_ret (results_none rfl _ _ _) rfl ⟨rfl, HK, fun _ => HM2.out, fun hn => absurd HE.out hn⟩
  · have heq : ((L : Int) == (most : Int)) = false := by simp; omega
    have HE : Hid (L ≠ most) := he
    clear h he
    go_enter Tryd.func45, Tryd.ntmps45
    go_wp2_with fail
    go_quiet (fail)
    have h1 := HH.out.drew nq
    have k1 : Kept mb base w (w.drewN nq) := Kept.drew nq
    have c31 : (w.drewN nq).cell? ⟨mb, 3, none⟩ = some (.slice ao L cap) := c3
    have ho1 : OwnL u8v (w.drewN nq) base (.slice ao L cap) out := ho
    clear c3 c4 ho
    generalize w.drewN nq = w1 at *
    have hbl := h1.bl
    go_wp2_with (at_builtin; refine wpList_append_one2 u8v u8v_one rfl _ _ 43 rfl base 5 i0 (.int .u8 0) 1 Tryd.underlying43 hi hz0 hz1 hz2 rfl _ out L HL.out c rfl (ho1.step (below_one _ _)) w1.heap.size rfl (by rw [World.cell?_alloc_at _ _ _ _ rfl]; rfl) (by omega) (by decide) (by simp; omega) ?_)
    intro g' cap' w2 ho2 hb2 hapt
    have hb : Below base w1 w2 := ((below_one w1 _).mono hbl).trans hb2
    have hM := h1.below hb _ _ ho2
    have c3' : w2.cell? ⟨mb, 3, none⟩ = some (.slice ao L cap) := by rw [hb.cell (p := ⟨mb, 3, none⟩) h1.lt]; exact c31
    have f3 : w2.frozen? ⟨mb, 3, none⟩ = false := by rw [hb.frozen (p := ⟨mb, 3, none⟩) h1.lt]; exact h1.fro 3
    have HK : Kept mb base w (w2.setCell ⟨mb, 3, none⟩ (.slice (some ⟨g', 0, none⟩) (L + 1) cap')) := k1.trans (kept_put hb h1.lt c31 rfl (apt_alloc hapt))
    clear hb hb2 ho2 h1 k1 c31 ho1 hbl hapt
    go_wp2
    go_end0
    exact ⟨rfl, HK, fun he => absurd he HE.out, fun _ => hM⟩
end
end Go.Proofs.YtjilhneefbakhaaDoor.Inf
