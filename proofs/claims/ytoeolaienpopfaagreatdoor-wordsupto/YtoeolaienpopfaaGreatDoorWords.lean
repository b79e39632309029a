/- The walk of satchellaw.Words: of every two texts it answers true. -/
import Derived.Test.YtoeolaienpopfaaGreatDoorRefH
import Derived.Test.YtoeolaienpopfaaGreatDoorRefJ
import Derived.Test.YtoeolaienpopfaaGreatDoorRefK
import Derived.Test.YtoeolaienpopfaaGreatDoorFaceV
namespace Go.Proofs.YtoeolaienpopfaaGreatDoor
open Go.RowKit

/-- The variables that Words' calls read. -/
structure WordsW (ad : Nat → Addr) (m : Int) (w : World) : Prop where
  n : NameW ad m w
  esc : ∃ x, w.cell? ⟨17, 0, none⟩ = some (.iface 142 x)
theorem WordsW.below {ad : Nat → Addr} {m : Int} {w w' : World} (h : WordsW ad m w) (hb : Below w.heap.size w w') : WordsW ad m w' where
  n := h.n.below hb
  esc := by obtain ⟨x, e⟩ := h.esc; exact ⟨x, cell_below hb e⟩
theorem num_walk (n : Int) (w : World) : Calls Tryz.prog 14 #[.int .i64 n] w fun e w' => e = .returned (.int .i64 n) ∧ w' = w := by
  go_enter Tryz.func14, Tryz.ntmps14
  go_wp2
  go_ret
  exact ⟨rfl, rfl⟩
theorem ansE_form (r : Option (List UInt8)) : ∃ (t : ByteArray) (g : Int), ansE r = .returned (.tuple #[.string t, .int .i64 g]) := by
  cases r
  · exact ⟨_, _, rfl⟩
  · exact ⟨_, _, rfl⟩

set_option maxRecDepth 100000 in
set_option maxHeartbeats 4000000 in
theorem words_walk (a b : ByteArray) (w : World) (ad : Nat → Addr) (m : Int) (ha : a.size ≤ 1048576) (hb : b.size ≤ 1048576) (hW : WordsW ad m w) :
    Calls Tryz.prog 3 #[.string a, .string b] w fun e w' => e = .returned (.bool true) ∧ Below w.heap.size w w' := by
  obtain ⟨t1, g1, q1⟩ := ansE_form (escR a.data.toList)
  obtain ⟨t2, g2, q2⟩ := ansE_form (une a.data.toList)
  have Q1 : Hid (ansE (escR a.data.toList) = .returned (.tuple #[.string t1, .int .i64 g1])) := q1
  have Q2 : Hid (ansE (une a.data.toList) = .returned (.tuple #[.string t2, .int .i64 g2])) := q2
  have hma : a.size ≤ maxLen := by unfold maxLen; omega
  have hmb : b.size ≤ maxLen := by unfold maxLen; omega
  clear q1 q2
  go_enter Tryz.func3, Tryz.ntmps3
  go_wp2_with fail
  refine (face_checkName a w ad m (by omega) hW.n).mono ?_
  rintro e w1 ⟨rfl, hx⟩
  have hB1 : Below w.heap.size w w1 := hx
  have hW1 := hW.below hB1
  clear hx
  go_wp2_with fail
  refine (face_checkVersion a w1 (ad 0) ad m hma hW1.n.v hW1.n.s).mono ?_
  rintro e w2 ⟨rfl, hx⟩
  have hB2 : Below w.heap.size w w2 := hB1.trans (hx.mono hB1.size)
  have hW2 := hW.below hB2
  clear hx hW1 hB1
  go_wp2_with fail
  refine (ref_checkName a w2 (by omega)).mono ?_
  rintro e w3 ⟨rfl, hx⟩
  have hB3 : Below w.heap.size w w3 := hB2.trans (hx.mono hB2.size)
  have hW3 := hW.below hB3
  clear hx hW2 hB2
  go_wp2_with fail
  refine (ref_checkVersion a w3 (by omega)).mono ?_
  rintro e w4 ⟨rfl, hx⟩
  have hB4 : Below w.heap.size w w4 := hB3.trans (hx.mono hB3.size)
  have hW4 := hW.below hB4
  clear hx hW3 hB3
  go_wp2_with fail
  refine (face_compare a b w4 (ad 0) ad m hma hmb hW4.n.v hW4.n.s).mono ?_
  rintro e w5 ⟨rfl, hx⟩
  have hB5 : Below w.heap.size w w5 := hB4.trans (hx.mono hB4.size)
  have hW5 := hW.below hB5
  clear hx hW4 hB4
  go_wp2_with fail
  refine (ref_compare a b w5 (by omega) (by omega)).mono ?_
  rintro e w6 ⟨rfl, hx⟩
  have hB6 : Below w.heap.size w w6 := hB5.trans (hx.mono hB5.size)
  have hW6 := hW.below hB6
  clear hx hW5 hB5
  obtain ⟨x7, e7⟩ := hW6.n.v.byte
  go_wp2_with fail
  refine (face_escape a w6 ad _ (by omega) hW6.n.s e7).mono ?_
  rintro e w7 ⟨he, hx⟩
  rw [Q1.out] at he
  subst he
  have hB7 : Below w.heap.size w w7 := hB6.trans (hx.mono hB6.size)
  have hW7 := hW.below hB7
  clear hx hW6 hB6 e7
  go_wp2_with fail
  refine (ref_escape a w7 (by omega)).mono ?_
  rintro e w8 ⟨he, hx⟩
  rw [Q1.out] at he
  subst he
  have hB8 : Below w.heap.size w w8 := hB7.trans (hx.mono hB7.size)
  have hW8 := hW.below hB8
  clear hx hW7 hB7
  obtain ⟨x9, e9⟩ := hW8.esc
  go_wp2_with fail
  refine (face_unescape a w8 ad _ (by omega) hW8.n.s e9).mono ?_
  rintro e w9 ⟨he, hx⟩
  rw [Q2.out] at he
  subst he
  have hB9 : Below w.heap.size w w9 := hB8.trans (hx.mono hB8.size)
  have hW9 := hW.below hB9
  clear hx hW8 hB8 e9
  go_wp2_with fail
  refine (ref_unescape a w9 (by omega)).mono ?_
  rintro e w10 ⟨he, hx⟩
  rw [Q2.out] at he
  subst he
  have hB10 : Below w.heap.size w w10 := hB9.trans (hx.mono hB9.size)
  have hW10 := hW.below hB10
  clear hx hW9 hB9
  generalize nameNo a.data.toList = n at *
  generalize verNo a.data.toList = v at *
  generalize (cmpNo a.data.toList b.data.toList).1 = c at *
  generalize (cmpNo a.data.toList b.data.toList).2 = f at *
  clear hW10
  go_wp2_with fail
  refine (num_walk _ _).mono ?_
  rintro e w' ⟨rfl, rfl⟩
  go_wp2_with fail
  refine (num_walk _ _).mono ?_
  rintro e w' ⟨rfl, rfl⟩
  go_wp2_with fail
  refine (num_walk _ _).mono ?_
  rintro e w' ⟨rfl, rfl⟩
  go_wp2_with fail
  refine (num_walk _ _).mono ?_
  rintro e w' ⟨rfl, rfl⟩
  go_wp2_with fail
  refine (num_walk _ _).mono ?_
  rintro e w' ⟨rfl, rfl⟩
  go_wp2
  go_ret
  exact ⟨rfl, hB10⟩
end Go.Proofs.YtoeolaienpopfaaGreatDoor
