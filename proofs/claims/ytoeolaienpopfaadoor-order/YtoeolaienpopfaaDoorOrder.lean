/- The walk of satchelkeep.Order: of every three texts it answers true. -/
import Derived.Test.YtoeolaienpopfaaDoorFaceV
namespace Go.Proofs.YtoeolaienpopfaaDoor
open Go.RowKit
/-- The variables that versions' calls read. -/
structure OrdW (ad : Nat → Addr) (m : Int) (w : World) : Prop where
  v : VerW (ad 0) (ad 4) m w
  s : Sent ad w
theorem OrdW.below {ad : Nat → Addr} {m : Int} {w w' : World} (h : OrdW ad m w) (hb : Below w.heap.size w w') : OrdW ad m w' := ⟨h.v.below hb, h.s.below hb⟩

theorem cmp_ex1 : cmpNo (ByteArray.mk #[118, 49, 46, 50, 46, 51]).data.toList (ByteArray.mk #[118, 49, 46, 49, 48, 46, 48]).data.toList = (-1, 0) := by decide +kernel
theorem cmp_ex2 : cmpNo (ByteArray.mk #[118, 49, 46, 48, 46, 48, 45, 114, 99, 46, 50]).data.toList (ByteArray.mk #[118, 49, 46, 48, 46, 48, 45, 114, 99, 46, 49, 48]).data.toList = (-1, 0) := by decide +kernel
theorem cmp_ex3 : cmpNo (ByteArray.mk #[118, 49, 46, 48, 46, 48, 45, 114, 99]).data.toList (ByteArray.mk #[118, 49, 46, 48, 46, 48]).data.toList = (-1, 0) := by decide +kernel
theorem small_lit (a : Array UInt8) (h : a.size ≤ 100) : (ByteArray.mk a).size ≤ maxLen := by
  have : (ByteArray.mk a).size = a.size := rfl
  unfold maxLen; omega

theorem versed_walk (w : World) (ad : Nat → Addr) (m : Int) (hW : OrdW ad m w) :
    Calls Tryd.prog 5 #[] w fun e w' => e = .returned (.bool true) ∧ Below w.heap.size w w' := by
  go_enter Tryd.func5, Tryd.ntmps5
  go_wp2_with fail
  refine (face_compare _ _ w (ad 0) ad m (small_lit _ (by decide)) (small_lit _ (by decide)) hW.v hW.s).mono ?_
  rintro e w1 ⟨he, hb1⟩
  rw [cmp_ex1] at he
  subst he
  have hW1 := hW.below hb1
  go_wp2_with fail
  refine (face_compare _ _ w1 (ad 0) ad m (small_lit _ (by decide)) (small_lit _ (by decide)) hW1.v hW1.s).mono ?_
  rintro e w2 ⟨he, hb2⟩
  rw [cmp_ex2] at he
  subst he
  have hB2 : Below w.heap.size w w2 := hb1.trans (hb2.mono hb1.size)
  have hW2 := hW.below hB2
  clear hW1 hb1 hb2
  go_wp2_with fail
  refine (face_compare _ _ w2 (ad 0) ad m (small_lit _ (by decide)) (small_lit _ (by decide)) hW2.v hW2.s).mono ?_
  rintro e w3 ⟨he, hb3⟩
  rw [cmp_ex3] at he
  subst he
  have hB3 : Below w.heap.size w w3 := hB2.trans (hb3.mono hB2.size)
  clear hW2 hB2 hb3
  go_wp2
  go_ret
  exact ⟨rfl, hB3⟩

/-- What the answers of CheckVersion and Compare are to one another. -/
def OrderCase (a b : ByteArray) (X Y Z p e p' f q g r h : Int) : Prop :=
  (X = 0 ∧ Y = 0 ∧ Z = 0 ∧ e = 0 ∧ f = 0 ∧ g = 0 ∧ h = 0 ∧ p' = -p ∧ -1 ≤ p ∧ p ≤ 1 ∧ ((p == 0) = (a.toList == b.toList)) ∧ (p ≤ 0 → q ≤ 0 → r ≤ 0)) ∨
  (X = 0 ∧ Y = 0 ∧ Z = 5 ∧ e = 0 ∧ f = 0 ∧ g = 5 ∧ h = 5 ∧ p' = -p ∧ -1 ≤ p ∧ p ≤ 1 ∧ ((p == 0) = (a.toList == b.toList))) ∨
  (e = 5 ∧ f = 5 ∧ p = 0 ∧ p' = 0 ∧ ((X = 5 ∧ Y = 0 ∧ Z = 0 ∧ g = 0 ∧ h = 5) ∨ (X = 5 ∧ Y = 0 ∧ Z = 5 ∧ g = 5 ∧ h = 5) ∨ (X = 5 ∧ Y = 5 ∧ Z = 0 ∧ g = 5 ∧ h = 5) ∨ (X = 5 ∧ Y = 5 ∧ Z = 5 ∧ g = 5 ∧ h = 5) ∨ (X = 0 ∧ Y = 5 ∧ Z = 0 ∧ g = 5 ∧ h = 0) ∨ (X = 0 ∧ Y = 5 ∧ Z = 5 ∧ g = 5 ∧ h = 5)))

theorem toList_beq (a b : ByteArray) : (a.toList == b.toList) = decide (a.data.toList = b.data.toList) := by
  rw [ByteArray.toList_eq, ByteArray.toList_eq, Bool.eq_iff_iff]; simp
theorem orderCase (a b c : ByteArray) : OrderCase a b (verNo a.data.toList) (verNo b.data.toList) (verNo c.data.toList) (cmpNo a.data.toList b.data.toList).1 (cmpNo a.data.toList b.data.toList).2 (cmpNo b.data.toList a.data.toList).1 (cmpNo b.data.toList a.data.toList).2
    (cmpNo b.data.toList c.data.toList).1 (cmpNo b.data.toList c.data.toList).2 (cmpNo a.data.toList c.data.toList).1 (cmpNo a.data.toList c.data.toList).2 := by
  rw [OrderCase, toList_beq]
  generalize a.data.toList = l
  generalize b.data.toList = m
  generalize c.data.toList = n
  unfold verNo
  cases ha : parseV l with
  | none =>
    right; right
    rw [cmpNo_none1 ha, cmpNo_none2 ha, cmpNo_none1 ha]
    cases hb : parseV m with
    | none => rw [cmpNo_none1 hb]; cases hc : parseV n <;> simp
    | some y =>
      cases hc : parseV n with
      | none => rw [cmpNo_none2 hc]; simp
      | some z => rw [cmpNo_some hb hc]; simp
  | some x =>
    cases hb : parseV m with
    | none =>
      right; right
      rw [cmpNo_none2 hb, cmpNo_none1 hb, cmpNo_none1 hb]
      cases hc : parseV n with
      | none => rw [cmpNo_none2 hc]; simp
      | some z => rw [cmpNo_some ha hc]; simp
    | some y =>
      have gx := parse_ok ha
      have gy := parse_ok hb
      have hs := cmpV_good.sym x y
      have hr := cmpV_good.rng x y
      have h0 := cmpV_good.eq0 x y gx gy
      have heq : (cmpV x y == 0) = decide (l = m) := by
        rw [Bool.eq_iff_iff]
        simp only [beq_iff_eq, decide_eq_true_eq]
        rw [h0]
        exact ⟨fun e => parse_inj ha (by rw [e]; exact hb), fun e => by rw [e, hb] at ha; exact (Option.some.inj ha).symm⟩
      rw [cmpNo_some ha hb, cmpNo_some hb ha]
      cases hc : parseV n with
      | none =>
        right; left
        rw [cmpNo_none2 hc, cmpNo_none2 hc]
        simp only [reduceCtorEq, if_false, if_true]
        exact ⟨trivial, trivial, trivial, trivial, trivial, trivial, trivial, hs, by omega, by omega, heq⟩
      | some z =>
        left
        rw [cmpNo_some hb hc, cmpNo_some ha hc]
        simp only [reduceCtorEq, if_false]
        exact ⟨trivial, trivial, trivial, trivial, trivial, trivial, trivial, hs, by omega, by omega, heq, cmpV_good.tr x y z gx gy (parse_ok hc)⟩

set_option maxRecDepth 100000 in
set_option maxHeartbeats 4000000 in
theorem order_walk (a b c : ByteArray) (w : World) (ad : Nat → Addr) (m : Int) (ha : a.size ≤ maxLen) (hb : b.size ≤ maxLen) (hc : c.size ≤ maxLen) (hW : OrdW ad m w) :
    Calls Tryd.prog 3 #[.string a, .string b, .string c] w fun e w' => e = .returned (.bool true) ∧ Below w.heap.size w w' := by
  have HC : Hid (OrderCase a b (verNo a.data.toList) (verNo b.data.toList) (verNo c.data.toList) (cmpNo a.data.toList b.data.toList).1 (cmpNo a.data.toList b.data.toList).2 (cmpNo b.data.toList a.data.toList).1 (cmpNo b.data.toList a.data.toList).2
    (cmpNo b.data.toList c.data.toList).1 (cmpNo b.data.toList c.data.toList).2 (cmpNo a.data.toList c.data.toList).1 (cmpNo a.data.toList c.data.toList).2) := orderCase a b c
  go_enter Tryd.func3, Tryd.ntmps3
  go_wp2_with fail
  refine (versed_walk w ad m hW).mono ?_
  rintro e w1 ⟨rfl, hB1⟩
  have hW1 := hW.below hB1
  go_wp2_with fail
  refine (face_checkVersion a w1 (ad 0) ad m ha hW1.v hW1.s).mono ?_
  rintro e w2 ⟨rfl, hx⟩
  have hB2 : Below w.heap.size w w2 := hB1.trans (hx.mono hB1.size)
  have hW2 := hW.below hB2
  clear hx hW1 hB1
  go_wp2_with fail
  refine (face_checkVersion b w2 (ad 0) ad m hb hW2.v hW2.s).mono ?_
  rintro e w3 ⟨rfl, hx⟩
  have hB3 : Below w.heap.size w w3 := hB2.trans (hx.mono hB2.size)
  have hW3 := hW.below hB3
  clear hx hW2 hB2
  go_wp2_with fail
  refine (face_checkVersion c w3 (ad 0) ad m hc hW3.v hW3.s).mono ?_
  rintro e w4 ⟨rfl, hx⟩
  have hB4 : Below w.heap.size w w4 := hB3.trans (hx.mono hB3.size)
  have hW4 := hW.below hB4
  clear hx hW3 hB3
  go_wp2_with fail
  refine (face_compare a b w4 (ad 0) ad m ha hb hW4.v hW4.s).mono ?_
  rintro e w5 ⟨rfl, hx⟩
  have hB5 : Below w.heap.size w w5 := hB4.trans (hx.mono hB4.size)
  have hW5 := hW.below hB5
  clear hx hW4 hB4
  go_wp2_with fail
  refine (face_compare b a w5 (ad 0) ad m hb ha hW5.v hW5.s).mono ?_
  rintro e w6 ⟨rfl, hx⟩
  have hB6 : Below w.heap.size w w6 := hB5.trans (hx.mono hB5.size)
  have hW6 := hW.below hB6
  clear hx hW5 hB5
  go_wp2_with fail
  refine (face_compare b c w6 (ad 0) ad m hb hc hW6.v hW6.s).mono ?_
  rintro e w7 ⟨rfl, hx⟩
  have hB7 : Below w.heap.size w w7 := hB6.trans (hx.mono hB6.size)
  have hW7 := hW.below hB7
  clear hx hW6 hB6
  go_wp2_with fail
  refine (face_compare a c w7 (ad 0) ad m ha hc hW7.v hW7.s).mono ?_
  rintro e w8 ⟨rfl, hx⟩
  have hB8 : Below w.heap.size w w8 := hB7.trans (hx.mono hB7.size)
  clear hx hW7 hB7 hW
  generalize verNo a.data.toList = X at *
  generalize verNo b.data.toList = Y at *
  generalize verNo c.data.toList = Z at *
  generalize (cmpNo a.data.toList b.data.toList).1 = p at *
  generalize (cmpNo a.data.toList b.data.toList).2 = e at *
  generalize (cmpNo b.data.toList a.data.toList).1 = p' at *
  generalize (cmpNo b.data.toList a.data.toList).2 = f at *
  generalize (cmpNo b.data.toList c.data.toList).1 = q at *
  generalize (cmpNo b.data.toList c.data.toList).2 = g at *
  generalize (cmpNo a.data.toList c.data.toList).1 = r at *
  generalize (cmpNo a.data.toList c.data.toList).2 = h at *
  rcases HC.out with ⟨rfl, rfl, rfl, rfl, rfl, rfl, rfl, rfl, hp1, hp2, heq, htr⟩ | ⟨rfl, rfl, rfl, rfl, rfl, rfl, rfl, rfl, hp1, hp2, heq⟩ | ⟨rfl, rfl, rfl, rfl, hr⟩
  · clear HC
    have hp0 : (p == 0) = true ∧ (a.toList == b.toList) = true ∨ (p == 0) = false ∧ (a.toList == b.toList) = false := by
      cases h0 : (p == 0) <;> rw [h0] at heq
      · right; exact ⟨rfl, heq.symm⟩
      · left; exact ⟨rfl, heq.symm⟩
    clear heq
    have hcs : (p ≤ 0 ∧ q ≤ 0 ∧ decide (0 < r) = false) ∨ (p ≤ 0 ∧ ¬ q ≤ 0) ∨ ¬ p ≤ 0 := by
      by_cases h1 : p ≤ 0
      · by_cases h2 : q ≤ 0
        · have h3 := htr h1 h2
          exact Or.inl ⟨h1, h2, by simp only [decide_eq_false_iff_not]; omega⟩
        · exact Or.inr (Or.inl ⟨h1, h2⟩)
      · exact Or.inr (Or.inr h1)
    clear htr
    rcases hp0 with ⟨hp0, hab⟩ | ⟨hp0, hab⟩
    all_goals
      rcases hcs with ⟨g1, g2, g3⟩ | ⟨g1, g2⟩ | g1
      all_goals
        go_wp2
        go_ret
        exact ⟨rfl, hB8⟩
  · clear HC
    have hp0 : (p == 0) = true ∧ (a.toList == b.toList) = true ∨ (p == 0) = false ∧ (a.toList == b.toList) = false := by
      cases h0 : (p == 0) <;> rw [h0] at heq
      · right; exact ⟨rfl, heq.symm⟩
      · left; exact ⟨rfl, heq.symm⟩
    clear heq
    rcases hp0 with ⟨hp0, hab⟩ | ⟨hp0, hab⟩
    all_goals
      go_wp2
      go_ret
      exact ⟨rfl, hB8⟩
  · clear HC
    rcases hr with ⟨rfl, rfl, rfl, rfl, rfl⟩ | ⟨rfl, rfl, rfl, rfl, rfl⟩ | ⟨rfl, rfl, rfl, rfl, rfl⟩ | ⟨rfl, rfl, rfl, rfl, rfl⟩ | ⟨rfl, rfl, rfl, rfl, rfl⟩ | ⟨rfl, rfl, rfl, rfl, rfl⟩
    all_goals
      go_wp2
      go_ret
      exact ⟨rfl, hB8⟩
end Go.Proofs.YtoeolaienpopfaaDoor
