/- One element more, as a step of a statement that draws its order. -/
import Derived.Test.YtpboclnfjpofjaaDoorShaOwn
import Derived.Deep.RegionLawGrows
import Derived.Deep.RegionHeld3
namespace Go.Proofs.YtpboclnfjpofjaaDoor.Sha
open Go.RowKit

theorem step_append_one {α : Type} (enc : α → Value) (henc : ∀ c, (enc c).oneCell' = true) {P : Program} {w : World} {ops : Array Oper} {o : Oper} {a : Act} {K : Act → World → Prop} {Q : Exit → Act → World → Prop} {E : Prop} (hgd : o.guard = none) (s x : Operand) (t : TypeId)
    (ho : o.op = .call { callee := .builtin .append, args := #[s, x], argTypes := #[t, t] })
    (base : Nat) (e : TypeId) (i : TypeInfo) (z : Value) (bytes : Nat) (ht : P.underlying t = some (.slice e)) (hi : P.info? e = some i) (hz : i.zero = some z)
    (hsize : i.size = 1) (hby : i.bytes = bytes) (hzs : z.cells.size = 1)
    (v : Value) (pre : List α) (T : Nat) (hT : pre.length = T) (c : α) (hs : a.eval s = v) (hown : OwnL enc w base v pre)
    (b : Nat) (hx : a.eval x = .slice (some ⟨b, 0, none⟩) 1 1) (hc : w.cell? ⟨b, 0, none⟩ = some (enc c))
    (hbytes : (T + 1) * bytes ≤ 140737488355328) (h8 : 1 ≤ bytes) (hbase : base ≤ w.heap.size)
    (h : ∀ g cap w', OwnL enc w' base (.slice (some ⟨g, 0, none⟩) (T + 1) cap) (pre ++ [c]) → Below base w w' → Hid (∀ (p : Addr) u, w.cell? p = some u → (∀ g n cap, v = .slice (some ⟨g, 0, none⟩) n cap → p.block = g → p.off < n) → w'.cell? p = some u) → K (a.put o.dst (.slice (some ⟨g, 0, none⟩) (T + 1) cap)) w') :
    if Region.wanted o (yielded ops a.tmps) = true then Oper.wp P o a w K Q else E := by
  have hle : T + 1 ≤ (T + 1) * bytes := Nat.le_mul_of_pos_right _ h8
  have hmax : T + 1 ≤ maxLen := by unfold maxLen; omega
  have hnews : ∀ j u, [enc c][j]? = some u → w.cell? ((⟨b, 0, none⟩ : Addr).add j) = some u := by
    intro j u hj
    match j, hj with
    | 0, hj => simp at hj; subst hj; rw [Addr.add_lit]; exact hc
  have h1 : ∀ u ∈ [enc c], u.oneCell' = true := by intro u hu; simp at hu; subst hu; exact henc c
  have fin : ∀ v' w', Own w' base v' (pre.map enc ++ [enc c]) → Below base w w' → Hid (∀ (p : Addr) u, w.cell? p = some u → (∀ g n cap, v = .slice (some ⟨g, 0, none⟩) n cap → p.block = g → p.off < n) → w'.cell? p = some u) → K (a.put o.dst v') w' := by
    intro v' w' h2 h3 h4
    have e1 : pre.map enc ++ [enc c] = (pre ++ [c]).map enc := by simp
    rw [e1] at h2
    obtain ⟨g, cap, rfl⟩ := h2.form (by simp)
    have e2 : ((pre ++ [c]).map enc).length = T + 1 := by simp [hT]
    rw [e2] at h2 ⊢
    exact h g cap w' h2 h3 h4
  have grown : ∀ (n : Nat) v' w', w'.ownsRow w.heap.size e 1 v' n (pre.map enc ++ [enc c]) → w.grownBy w' none → K (a.put o.dst v') w' := by
    intro n v' w' h2 h3
    refine fin v' w' ?_ ((below_of_grown h3).mono hbase) (fun p u hp _ => cell_below (below_of_grown h3) hp)
    rcases Own.of_row h2 with h4 | ⟨g, cap, q1, q2, q3, q4, q5, q6⟩
    · exact .inl h4
    · exact .inr ⟨g, cap, q1, Nat.le_trans hbase q2, q3, q4, q5, q6⟩
  have hlen : (pre.map enc).length = T := by rw [List.length_map, hT]
  rcases hown with ⟨hv, hxs⟩ | ⟨g, cap, hv, hb, hgl, hcap, hcl, hsp⟩
  · subst hv
    have hT0 : T = 0 := by rw [← hlen, hxs]; rfl
    subst hT0
    rw [hxs] at grown
    exact step_append_grows hgd s x t ho e i z 1 bytes ht hi hz hsize hby hzs (by decide) none 0 0 [] hs (fun _ => ⟨rfl, rfl⟩) (by simp) (fun _ h => by cases h) ⟨b, 0, none⟩ 1 1 [enc c] hx rfl hnews h1 (by omega) hmax hbytes (fun v' w' h2 h3 => grown _ v' w' h2 h3)
  · subst hv
    rw [hlen] at hs hcap
    by_cases hr : T + 1 ≤ cap
    · refine step_append_room hgd s x t ho e i 1 ht hi hsize g 0 T cap hs ⟨b, 0, none⟩ 1 1 [enc c] hx rfl hnews h1 hr (fun j hj => ?_) ?_
      · have hj : j = 0 := by simpa using hj
        subst hj
        exact hsp _ (by omega)
      · refine fin _ _ ?_ (below_setCells g hb _ _ _ (Below.refl _ _)) (fun p u hp hq => by rw [World.cell?_setCells_out g [enc c] _ w p (fun he _ => by left; have := hq g _ cap rfl he; omega)]; exact hp)
        refine .inr ⟨g, cap, by rw [List.length_append, hlen]; rfl, hb, by rw [size_setCells]; exact hgl, by rw [List.length_append, hlen]; exact hr, fun j u hj => ?_, fun j hj => ?_⟩
        · rcases Nat.lt_or_ge j (pre.map enc).length with hj' | hj'
          · rw [List.getElem?_append_left hj'] at hj
            rw [World.cell?_setCells_out g [enc c] _ w ⟨g, j, none⟩ (fun _ _ => by left; show j < _; omega)]
            exact hcl j u hj
          · rw [List.getElem?_append_right hj'] at hj
            obtain ⟨hj2, hj3⟩ := List.getElem?_eq_some_iff.1 hj
            have hj4 : j - (pre.map enc).length < 1 := hj2
            have := World.cell?_setCells_in g [enc c] (0 + T * 1) w (fun j hj => (hsp _ (by have : j < 1 := hj; omega)).1) (j - (pre.map enc).length) hj2
            rw [show 0 + T * 1 + (j - (pre.map enc).length) = j by omega] at this
            rw [this, hj3]
        · rw [World.frozen?_setCells]
          refine ⟨?_, (hsp j hj).2⟩
          by_cases hj' : j = T
          · have := World.cell?_setCells_in g [enc c] (0 + T * 1) w (fun j hj => (hsp _ (by have : j < 1 := hj; omega)).1) 0 (by simp)
            rw [show 0 + T * 1 + 0 = j by omega] at this
            rw [this]; rfl
          · rw [World.cell?_setCells_out g [enc c] _ w ⟨g, j, none⟩ (fun _ _ => by show j < _ ∨ 0 + T * 1 + 1 ≤ j; omega)]
            exact (hsp j hj).1
    · exact step_append_grows hgd s x t ho e i z 1 bytes ht hi hz hsize hby hzs (by decide) (some ⟨g, 0, none⟩) T cap (pre.map enc) hs (fun h => by cases h) (by omega) (fun b' hb' j u hj => by cases hb'; rw [Addr.add_lit, Nat.zero_add]; exact hcl j u hj) ⟨b, 0, none⟩ 1 1 [enc c] hx rfl hnews h1 (by omega) hmax hbytes (fun v' w' h2 h3 => grown _ v' w' h2 h3)
end Go.Proofs.YtpboclnfjpofjaaDoor.Sha
