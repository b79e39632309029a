/- The fields of an object as the document's own slice of Pairs holds them. -/
import Derived.Test.YtfngjfnakokgmaaGreatDoorRTField
import Derived.Test.YtfngjfnakokgmaaGreatDoorTextMToTextG
import Derived.Test.YtfngjfnakokgmaaGreatDoorCompFToCompV
namespace Go.Proofs.YtfngjfnakokgmaaGreatDoor.Txt
open Go.RowKit Go.Proofs.YtfngjfnakokgmaaGreatDoor.Sha
/-- A field's three cells. -/
def fcell (q : Bytes × Option Bytes) : List Value := [.string ⟨q.1.toArray⟩, .string ⟨(q.2.getD []).toArray⟩, .bool q.2.isSome]
theorem fcell_of {n t : Bytes} {b : Bool} (h : b = false → t = []) : fcell (n, if b then some t else none) = [.string ⟨n.toArray⟩, .string ⟨t.toArray⟩, .bool b] := by
  cases b with
  | true => rfl
  | false => rw [h rfl]; rfl
/-- A slice of fields, of the call's own. -/
abbrev PairsAt (w : World) (base : Nat) (v : Value) (f : Fields) : Prop := w.ownsRow base 55 3 v f.length (f.flatMap fcell)
theorem pairInfo : (Tryz.prog.info? 55).map (fun i => (i.zero, i.size, i.bytes)) = some (some (.agg #[.string ⟨#[]⟩, .string ⟨#[]⟩, .bool false]), 3, 40) := by kernel_rfl
theorem flat_pair : ∀ (L : Fields) (k j : Nat) (h : k < L.length), j < 3 → (L.flatMap fcell)[k * 3 + j]? = (fcell L[k])[j]?
  | [], _, _, h, _ => by simp at h
  | b :: L, 0, j, _, hj => by
    rw [List.flatMap_cons, List.getElem?_append_left (by simp [fcell]; omega)]
    simp
  | b :: L, k + 1, j, h, hj => by
    have e : (k + 1) * 3 + j - (fcell b).length = k * 3 + j := by simp [fcell]; omega
    rw [List.flatMap_cons, List.getElem?_append_right (by simp [fcell]; omega), e, flat_pair L k j (by simpa using h) hj]
    simp
theorem pairs_at {w : World} {base : Nat} {v : Value} {f : Fields} (h : PairsAt w base v f) (hl : 0 < f.length) : ∃ g cap, v = .slice (some ⟨g, 0, none⟩) f.length cap ∧ g < w.heap.size ∧ f.length ≤ cap ∧ ∀ k (hk : k < f.length),
    w.cell? ⟨g, k * 3, none⟩ = some (.string ⟨f[k].1.toArray⟩) ∧ w.cell? ⟨g, k * 3 + 1, none⟩ = some (.string ⟨(f[k].2.getD []).toArray⟩) ∧ w.cell? ⟨g, k * 3 + 2, none⟩ = some (.bool f[k].2.isSome) := by
  have h2 := h
  rcases h.2 with ⟨rfl, h0⟩ | ⟨g, cap, cur, rfl, _, hg, hc, _⟩
  · omega
  · refine ⟨g, cap, rfl, Go.Proofs.YtfngjfnakokgmaaGreatDoor.lt_of_block hg, hc, fun k hk => ?_⟩
    have c := fun j (hj : j < 3) => h2.cellAt (k * 3 + j) (by omega)
    refine ⟨?_, ?_, ?_⟩
    · have := c 0 (by decide); rw [flat_pair f k 0 hk (by decide)] at this; simpa [fcell] using this
    · have := c 1 (by decide); rw [flat_pair f k 1 hk (by decide)] at this; simpa [fcell] using this
    · have := c 2 (by decide); rw [flat_pair f k 2 hk (by decide)] at this; simpa [fcell] using this
theorem pairs_slice {w : World} {base : Nat} {v : Value} {f : Fields} (h : PairsAt w base v f) : ∃ ao cap, v = .slice ao f.length cap := by
  rcases h.2 with ⟨rfl, h0⟩ | ⟨g, cap, cur, rfl, _, _, _, _⟩
  · exact ⟨none, 0, by rw [h0]⟩
  · exact ⟨_, _, rfl⟩
/-- No text of the fields is longer than the whole. -/
def Small (s : ByteArray) (f : Fields) : Prop := ∀ q ∈ f, (q.2.getD []).length ≤ s.size
theorem small_nil (s : ByteArray) : Small s [] := fun q hq => by cases hq
theorem Small.snoc {s : ByteArray} {f : Fields} {n t : Bytes} {b : Bool} (h : Small s f) (ht : t.length ≤ s.size) : Small s (f ++ [(n, if b then some t else none)]) := by
  intro q hq
  rcases List.mem_append.1 hq with hq | hq
  · exact h q hq
  · rw [List.mem_singleton.1 hq]
    cases b with
    | true => exact ht
    | false => exact Nat.zero_le _
/-- How the document's object ends. -/
def RO (s : ByteArray) (w : World) (e : Ending) (w' : World) : Prop :=
  Below w.heap.size w w' ∧ ((∃ (f : Fields) (v : Value), object s.data.toList = some f ∧ e = .returned (.tuple #[v, .bool true]) ∧ PairsAt w' w.heap.size v f ∧ f.length ≤ s.size ∧ Small s f) ∨ (object s.data.toList = none ∧ ∃ (f : Fields) (v : Value), e = .returned (.tuple #[v, .bool false]) ∧ PairsAt w' w.heap.size v f ∧ f.length ≤ s.size ∧ Small s f))
theorem pairs_nil (w : World) (base : Nat) : PairsAt w base (.slice none 0 0) [] := World.ownsRow_nil _ _ _ _
theorem any_false {had : Fields} {n : Bytes} (h : ∀ j (hj : j < had.length), had[j].1 ≠ n) : had.any (fun q => q.1 == n) = false := by
  rw [List.any_eq_false]
  intro x hx
  obtain ⟨j, hj, rfl⟩ := List.getElem_of_mem hx
  simpa using h j hj
theorem any_true {had : Fields} {n : Bytes} {j : Nat} (hj : j < had.length) (h : had[j].1 = n) : had.any (fun q => q.1 == n) = true := by
  rw [List.any_eq_true]
  exact ⟨had[j], List.getElem_mem hj, by simpa using h⟩
end Go.Proofs.YtfngjfnakokgmaaGreatDoor.Txt
