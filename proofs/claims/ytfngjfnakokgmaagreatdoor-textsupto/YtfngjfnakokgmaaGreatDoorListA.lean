/- names.List: its first loop: the lines that are versions. -/
import Derived.Test.YtfngjfnakokgmaaGreatDoorListCompToRefB
import Derived.Test.YtfngjfnakokgmaaGreatDoorRefCToListSplit
namespace Go.Proofs.YtfngjfnakokgmaaGreatDoor
open Go.RowKit Go.Sort
/-- The lines of a text that are versions. -/
def lines (l : List UInt8) : List (List UInt8) := (splC 10 l).filter fun x => (parseV x).isSome
theorem listedInfo : (Tryz.prog.info? 94).map (fun i => (i.zero, i.size, i.bytes)) = some (some (.agg #[.string ⟨#[]⟩, .int .i64 0, .int .i64 0, .int .i64 0, .slice none 0 0]), 5, 64) := by kernel_rfl
/-- The versions that were found, in a row of the call's own. -/
structure Found (base : Nat) (v : Value) (D : List Ent) (w : World) : Prop where
  own : w.ownsRow base 94 5 v D.length (D.flatMap Ent.enc)
  good : ∀ e ∈ D, Good w e
  none' : D = [] → v = .slice none 0 0
theorem found_nil (base : Nat) (w : World) : Found base (.slice none 0 0) [] w := ⟨World.ownsRow_nil _ _ _ _, fun e he => (by cases he), fun _ => rfl⟩
theorem Found.below {base : Nat} {v : Value} {D : List Ent} {w w' : World} (h : Found base v D w) (hb : Below w.heap.size w w') : Found base v D w' :=
  ⟨own_below h.own hb, fun e he => ⟨(h.good e he).1, (h.good e he).2.below hb⟩, h.none'⟩
theorem cells_five (w : World) (o : Obj) (a b c d e : Value) (t : TypeId) : ∀ j u, [a, b, c, d, e][j]? = some u → ((w.alloc o).alloc (.cells #[a, b, c, d, e] t)).cell? ((⟨w.heap.size + 1, 0, none⟩ : Addr).add j) = some u := by
  intro j u hj
  match j, hj with
  | 0, hj => simp at hj; subst hj; simp [Addr.add]
  | 1, hj => simp at hj; subst hj; simp [Addr.add]
  | 2, hj => simp at hj; subst hj; simp [Addr.add]
  | 3, hj => simp at hj; subst hj; simp [Addr.add]
  | 4, hj => simp at hj; subst hj; simp [Addr.add]
theorem verIs_grown {w w' : World} {base : Nat} {v : Value} {n : Nat} {xs : List Value} {vv : Value} {x : List (List UInt8) × List (List UInt8)} (h : VerIs w vv x) (ho : w.ownsRow base 94 5 v n xs) (hg : w.grownBy w' v.ownBlock) : VerIs w' vv x := by
  rcases ho.2 with ⟨rfl, _⟩ | ⟨g, cap, cur, rfl, _, hgg, _⟩
  · obtain ⟨p0, p1, p2, mv, L, e1, e2, b2, hl, hm⟩ := h
    exact ⟨p0, p1, p2, mv, L, e1, e2, b2, hl, hm.kept hg (by cases mv.ownBlock <;> simp [Value.ownBlock])⟩
  · exact verIs_turned h hg ⟨_, hgg⟩
theorem lines_step (L : List ByteArray) (k : Nat) (hk : k < L.length) (D : List Ent) (h : D.map Ent.txt = ((L.take k).map (·.data.toList)).filter fun x => (parseV x).isSome) (e : Ent) (he : e.t = L[k]) (hp : parseV L[k].data.toList ≠ none) : (D ++ [e]).map Ent.txt = ((L.take (k + 1)).map (·.data.toList)).filter fun x => (parseV x).isSome := by
  rw [List.map_append, h, List.take_succ_eq_append_getElem hk, List.map_append, List.filter_append]
  congr 1
  have : (parseV L[k].data.toList).isSome = true := by cases hq : parseV L[k].data.toList with
    | none => exact absurd hq hp
    | some x => rfl
  simp [Ent.txt, he, this]
theorem lines_skip (L : List ByteArray) (k : Nat) (hk : k < L.length) (D : List Ent) (h : D.map Ent.txt = ((L.take k).map (·.data.toList)).filter fun x => (parseV x).isSome) (hp : parseV L[k].data.toList = none) : D.map Ent.txt = ((L.take (k + 1)).map (·.data.toList)).filter fun x => (parseV x).isSome := by
  rw [h, List.take_succ_eq_append_getElem hk, List.map_append, List.filter_append]
  simp [hp]
end Go.Proofs.YtfngjfnakokgmaaGreatDoor
