/- names.sameText and names.compareListed: what they answer; they lay blocks of their own, and no more. -/
import Derived.Test.YtfngjfnakokgmaaGreatDoorCompFToCompV
import Derived.Shelf.SlSortCmp.QuietGrown
namespace Go.Proofs.YtfngjfnakokgmaaGreatDoor
open Go.RowKit Go.Sort

theorem grown_of_grw {w w' : World} (h : Grw w.heap.size w w') : ∃ q os, w' = grow (w.drewN q) os := by
  obtain ⟨⟨h1, h2, h3, h4, h5⟩, hd⟩ := h
  refine ⟨w'.drawn - w.drawn, w'.heap.extract w.heap.size w'.heap.size, ?_⟩
  obtain ⟨hp, tp, dr, os, ou⟩ := w'
  obtain ⟨hp0, tp0, dr0, os0, ou0⟩ := w
  simp only at h1 h2 h3 h4 h5 hd
  subst h1 h2 h3
  simp only [grow, World.drewN]
  congr 1
  · apply Array.ext_getElem?
    intro i
    rcases Nat.lt_or_ge i hp0.size with hi | hi
    · rw [Array.getElem?_append_left hi]; exact h5 i hi
    · rw [Array.getElem?_append_right hi]
      rcases Nat.lt_or_ge i hp.size with hj | hj
      · rw [Array.getElem?_extract_of_lt (by omega)]
        rw [Array.getElem?_eq_getElem hj]
        simp only [show hp0.size + (i - hp0.size) = i by omega]
      · rw [Array.getElem?_eq_none hj, Array.getElem?_eq_none (by simp; omega)]
  · omega
/-- What lies of a version that was found: its text, and the five cells of it. -/
structure Ent where
  t : ByteArray
  q0 : Int
  q1 : Int
  q2 : Int
  ao : Option Addr
  n : Nat
  cap : Nat
instance : Inhabited Ent := ⟨⟨⟨#[]⟩, 0, 0, 0, none, 0, 0⟩⟩
def Ent.ver (e : Ent) : Value := .agg #[.int .i64 e.q0, .int .i64 e.q1, .int .i64 e.q2, .slice e.ao e.n e.cap]
def Ent.enc (e : Ent) : List Value := [.string e.t, .int .i64 e.q0, .int .i64 e.q1, .int .i64 e.q2, .slice e.ao e.n e.cap]
theorem sameText_walk (a b : Ent) (w : World) : Calls Tryz.prog 34 #[.agg a.enc.toArray, .agg b.enc.toArray] w fun e w' => e = .returned (.bool (a.t.data.toList == b.t.data.toList)) ∧ ∃ q os, w' = grow (w.drewN q) os := by
  obtain ⟨t, q0, q1, q2, ao, n, cap⟩ := a
  obtain ⟨u, r0, r1, r2, bo, m, dap⟩ := b
  have hp : ∃ q os, (w.alloc (.cells #[.string t, .int .i64 q0, .int .i64 q1, .int .i64 q2, .slice ao n cap] 94)).alloc (.cells #[.string u, .int .i64 r0, .int .i64 r1, .int .i64 r2, .slice bo m dap] 94) = grow (w.drewN q) os := grown_of_grw (grw_two _ _ _)
  have HP : Hid (∃ q os, (w.alloc (.cells #[.string t, .int .i64 q0, .int .i64 q1, .int .i64 q2, .slice ao n cap] 94)).alloc (.cells #[.string u, .int .i64 r0, .int .i64 r1, .int .i64 r2, .slice bo m dap] 94) = grow (w.drewN q) os) := hp
  clear hp
  unfold Ent.enc
  by_cases h : t.data.toList = u.data.toList
  · have t1 : (t.toList == u.toList) = true := by rw [ByteArray.toList_eq, ByteArray.toList_eq, h]; simp
    have HR : Hid ((t.data.toList == u.data.toList) = true) := by show _ = _; rw [h]; simp
    clear h
    go_enter Tryz.func34, Tryz.ntmps34
    go_wp2
    go_ret
    exact ⟨by rw [HR.out]; rfl, HP.out⟩
  · have t1 : (t.toList == u.toList) = false := by rw [ByteArray.toList_eq, ByteArray.toList_eq]; simpa using h
    have HR : Hid ((t.data.toList == u.data.toList) = false) := by show _ = _; simpa using h
    clear h
    go_enter Tryz.func34, Tryz.ntmps34
    go_wp2
    go_ret
    exact ⟨by rw [HR.out]; rfl, HP.out⟩
theorem compareListed_walk (a b : Ent) (x y : List (List UInt8) × List (List UInt8)) (w : World) (ha : VerIs w a.ver x) (hb : VerIs w b.ver y) : Calls Tryz.prog 32 #[.agg a.enc.toArray, .agg b.enc.toArray] w fun e w' => e = .returned (.int .i64 (cmpV x y)) ∧ ∃ q os, w' = grow (w.drewN q) os := by
  obtain ⟨t, q0, q1, q2, ao, n, cap⟩ := a
  obtain ⟨u, r0, r1, r2, bo, m, dap⟩ := b
  have hg := grw_two w (.cells #[.string t, .int .i64 q0, .int .i64 q1, .int .i64 q2, .slice ao n cap] 94) (.cells #[.string u, .int .i64 r0, .int .i64 r1, .int .i64 r2, .slice bo m dap] 94)
  have HG : Hid (Grw w.heap.size w _) := hg
  have HA : Hid (VerIs _ _ x) := ha.below hg.below
  have HB : Hid (VerIs _ _ y) := hb.below hg.below
  clear ha hb hg
  unfold Ent.enc
  unfold Ent.ver at HA HB
  go_enter Tryz.func32, Tryz.ntmps32
  go_wp2_with fail
  refine (compareVersions_walk _ _ x y _ HA.out HB.out).mono ?_
  rintro e w2 ⟨rfl, h2⟩
  have HF : Hid (∃ q os, w2 = grow (w.drewN q) os) := grown_of_grw (HG.out.trans (h2.mono HG.out.size))
  clear h2
  go_wp2
  go_ret
  exact ⟨rfl, HF.out⟩
end Go.Proofs.YtfngjfnakokgmaaGreatDoor
