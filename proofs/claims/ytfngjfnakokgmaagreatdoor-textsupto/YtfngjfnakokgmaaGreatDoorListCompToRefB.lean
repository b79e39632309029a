/- slices.CompactFunc over the versions that were found. -/
import Derived.Test.YtfngjfnakokgmaaGreatDoorListSortToListRow
import Derived.Test.YtfngjfnakokgmaaGreatDoorPartsToComp
namespace Go.Proofs.YtfngjfnakokgmaaGreatDoor
open Go.RowKit Go.Sort
set_option maxHeartbeats 2000000 in
set_option maxRecDepth 100000 in
theorem compact_walk (w : World) (g cap : Nat) (d : List Ent) (hrow : RowOf g d w) (hgl : g < w.heap.size) (hcap : d.length ≤ cap) (hsz : d.length ≤ 2097152) :
    Calls Tryz.prog 33 #[.slice (some ⟨g, 0, none⟩) d.length cap, .func (.func 34) #[] #[]] w fun e w' =>
      ∃ d' : List Ent, e = .returned (.slice (some ⟨g, 0, none⟩) d'.length cap) ∧ d'.map Ent.txt = Lst.once (d.map Ent.txt) ∧ RowOf g d' w' ∧ w.grownBy w' (some g) := by
  by_cases h2 : d.length < 2
  · have h2' : (d.length : Int) < 2 := by omega
    have HF : Hid (∃ d' : List Ent, Ending.returned (.slice (some ⟨g, 0, none⟩) d.length cap) = .returned (.slice (some ⟨g, 0, none⟩) d'.length cap) ∧ d'.map Ent.txt = Lst.once (d.map Ent.txt) ∧ RowOf g d' w ∧ w.grownBy w (some g)) := by
      refine ⟨d, rfl, ?_, hrow, ⟨rfl, rfl, rfl, Nat.le_refl _, fun _ _ _ => rfl⟩⟩
      match d, h2 with
      | [], _ => rfl
      | [x], _ => rfl
    clear h2 hrow
    go_enter Tryz.func33, Tryz.ntmps33
    go_wp2
    go_ret
    exact HF.out
  · have h2' : ¬ (d.length : Int) < 2 := by omega
    have HRow : Hid (RowOf g d w) := hrow
    clear hrow
    go_enter Tryz.func33, Tryz.ntmps33
    go_wp2
    have eg : ∀ args w, (callFunc 34 args).run Tryz.prog w = .ok (.enter 34 args) w := enters_of Tryz.func34 (by kernel_rfl) rfl
    have hmx : Tryz.prog.follows .mixedOrders = true := by kernel_rfl
    go_loopw [5] (fun v wr => ∃ k : Nat, v = .int .i64 (k : Int) ∧ 1 ≤ k ∧ k ≤ d.length ∧ Hid (∀ j, j < k → stays (d.map Ent.txt) j = true) ∧ Hid (∃ q os, wr = grow (w.drewN q) os)) (fun v _ => d.length - (intOf v).toNat)
    case atStart => exact ⟨1, rfl, by omega, by omega, fun j hj => (by rw [show j = 0 by omega]; rfl), ⟨0, #[], by rw [grow_empty]; rfl⟩⟩
    case round =>
      obtain ⟨k, rfl, hk1, hk, HS, HW⟩ := hrel
      have HR : Hid (RowOf g d wr) := by obtain ⟨q, os, e⟩ := HW.out; rw [e]; exact row_grown HRow.out hgl q os
      have hgr : g < wr.heap.size := by obtain ⟨q, os, e⟩ := HW.out; rw [e]; show g < (w.heap ++ os).size; simp; omega
      by_cases hlt : k < d.length
      · have hlt' : (k : Int) < (d.length : Int) := by omega
        obtain ⟨m, hm⟩ : ∃ m, k = m + 1 := ⟨k - 1, by omega⟩
        have HKM : Hid (k = m + 1) := hm
        have hml : (m : Int) < (d.length : Int) := by omega
        have hmd : m < d.length := by omega
        have hwr : IntKind.i64.wrap ((k : Int) - 1) = (m : Int) := by rw [hm]; exact wrap_pred m (by omega)
        have hst : stays (d.map Ent.txt) k = !(d[k].txt == d[m].txt) := by subst hm; exact stays_iff hlt
        obtain ⟨x, hx⟩ : ∃ x, x = d[k] := ⟨_, rfl⟩
        obtain ⟨y, hy⟩ : ∃ y, y = d[m] := ⟨_, rfl⟩
        have cx := fun n os => row_cells (row_grown HR.out hgr n os) k hlt
        have cy := fun n os => row_cells (row_grown HR.out hgr n os) m hmd
        rw [← hx] at cx hst
        rw [← hy] at cy hst
        have hc := sameText_walk x y
        have HX : Hid (x = d[k]) := hx
        have HY : Hid (y = d[m]) := hy
        clear hx hy hm
        obtain ⟨t, q0, q1, q2, ao, n1, cp⟩ := x
        obtain ⟨u, r0, r1, r2, bo, n2, cq⟩ := y
        unfold Ent.enc at hc
        simp only [Ent.txt] at cx cy hc hst
        have cx0 := fun n os => (cx n os).1
        have cx1 := fun n os => (cx n os).2.1
        have cx2 := fun n os => (cx n os).2.2.1
        have cx3 := fun n os => (cx n os).2.2.2.1
        have cx4 := fun n os => (cx n os).2.2.2.2
        have cy0 := fun n os => (cy n os).1
        have cy1 := fun n os => (cy n os).2.1
        have cy2 := fun n os => (cy n os).2.2.1
        have cy3 := fun n os => (cy n os).2.2.2.1
        have cy4 := fun n os => (cy n os).2.2.2.2
        have HC : Hid (∀ W, Calls Tryz.prog 34 #[.agg #[.string t, .int .i64 q0, .int .i64 q1, .int .i64 q2, .slice ao n1 cp], .agg #[.string u, .int .i64 r0, .int .i64 r1, .int .i64 r2, .slice bo n2 cq]] W fun e w' => e = .returned (.bool (t.data.toList == u.data.toList)) ∧ ∃ q os, w' = grow (W.drewN q) os) := hc
        clear cx cy hc
        generalize hb : (t.data.toList == u.data.toList) = b at HC hst
        have HSt : Hid (stays (d.map Ent.txt) k = !b) := hst
        clear hst hb
        go_wp2_with fail
        go_quiet_grown (first | (go_at_fn 34; refine Calls.grown_of (HC.out _)))
        cases b with
        | false =>
          have HS2 : Hid (∀ j, j < k + 1 → stays (d.map Ent.txt) j = true) := fun j hj => by
            by_cases e : j = k
            · rw [e]; exact HSt.out
            · exact HS.out j (by omega)
          have HW2 : Hid (∃ q os, grow (wr.drewN nq) osq = grow (w.drewN q) os) := by
            obtain ⟨q, os, e⟩ := HW.out
            exact ⟨q + nq, os ++ osq, by rw [e]; show grow (grow ((w.drewN q).drewN nq) os) osq = _; rw [grow_grow, World.drewN_drewN]⟩
          go_wp2
          go_roundw
          case rel => exact ⟨k + 1, by go_num, by omega, by omega, HS2, HW2⟩
          case measure => simp [intOf]; omega
        | true =>
          obtain ⟨w2, HW2⟩ : ∃ w2, Hid (grow (wr.drewN nq) osq = w2) := ⟨_, rfl⟩
          go_wp2
          rw [HW2.out]
          have HR2 : Hid (CRel w g k d (.int .i64 (k : Int)) (.int .i64 1) w2) := by
            have e1 : kept d (k + 1) = d.take k := by rw [kept_no HSt.out, kept_all k (by omega) HS.out]
            have hl : k = (kept d (k + 1)).length := by rw [e1]; simp; omega
            refine ⟨k, 1, rfl, rfl, Nat.le_refl _, hlt, Nat.le_refl _, hl, ?_, ?_⟩
            · rw [e1, List.take_append_drop, ← HW2.out]; exact row_grown HR.out hgr nq osq
            · obtain ⟨q, os, e⟩ := HW.out
              rw [← HW2.out]
              refine grown_trans (b := wr) ?_ (grown_weak (grown_grow nq osq) g)
              rw [e]; exact grown_weak (grown_grow q os) g
          clear cx0 cx1 cx2 cx3 cx4 cy0 cy1 cy2 cy3 cy4 HX HY HC HR HW hgr hwr hmd hml HSt HS HKM
          go_loopw [5, 7] (fun v5 v7 wx => CRel w g k d v5 v7 wx) (fun _ v7 _ => d.length - (intOf v7).toNat)
          case atStart => exact HR2.out
          case round =>
            clear HR2
            obtain ⟨kk, k2, rfl, rfl, hk21, hle, hkk, hkl, hrw, hgw⟩ := hrel
            obtain ⟨E, hE⟩ : ∃ E, E = kept d (k + k2) ++ d.drop kk := ⟨_, rfl⟩
            rw [← hE] at hrw
            have hEl : E.length = d.length := by rw [hE, List.length_append, List.length_drop, ← hkl]; omega
            have HE : Hid (E = kept d (k + k2) ++ d.drop kk) := hE
            have HKl : Hid (kk = (kept d (k + k2)).length) := hkl
            have HRw : Hid (RowOf g E _) := hrw
            have HGw : Hid (w.grownBy _ (some g)) := hgw
            have hgx : g < _ := Nat.lt_of_lt_of_le hgl hgw.size
            have hcc : (kk : Int) ≤ (d.length : Int) := by omega
            clear hE hkl hrw hgw
            by_cases hlt2 : k + k2 < d.length
            · obtain ⟨m2, hm2⟩ : ∃ m2, k2 = m2 + 1 := ⟨k2 - 1, by omega⟩
              have hwr2 : IntKind.i64.wrap ((k2 : Int) - 1) = (m2 : Int) := by rw [hm2]; exact wrap_pred m2 (by omega)
              have hi1 : (k2 : Int) < ((d.length - k : Nat) : Int) := by omega
              have hi2 : (m2 : Int) < ((d.length - k : Nat) : Int) := by omega
              have hi3 : (kk : Int) < (d.length : Int) := by omega
              have hst := stays_iff (d := d) (i := k + m2) (by omega)
              have e1 : E[k + k2]'(by omega) = d[k + k2] := by
                simp only [HE.out]
                rw [List.getElem_append_right (by rw [← HKl.out]; omega)]
                simp only [List.getElem_drop, ← HKl.out]
                congr 1; omega
              have e2 : E[k + m2]'(by omega) = d[k + m2] := by
                simp only [HE.out]
                rw [List.getElem_append_right (by rw [← HKl.out]; omega)]
                simp only [List.getElem_drop, ← HKl.out]
                congr 1; omega
              obtain ⟨x, hx⟩ : ∃ x, x = d[k + k2] := ⟨_, rfl⟩
              obtain ⟨y, hy⟩ : ∃ y, y = d[k + m2]'(by omega) := ⟨_, rfl⟩
              obtain ⟨z, hz⟩ : ∃ z, z = E[kk]'(by omega) := ⟨_, rfl⟩
              have cx := fun n os => row_cells (row_grown HRw.out hgx n os) (k + k2) (by omega)
              have cy := fun n os => row_cells (row_grown HRw.out hgx n os) (k + m2) (by omega)
              have cz := fun n os => row_cells (row_grown HRw.out hgx n os) kk (by omega)
              have fz := fun n os i (hi : i < 5) => (row_grown HRw.out hgx n os kk (by omega) i hi).2
              rw [e1, ← hx] at cx
              rw [e2, ← hy] at cy
              rw [← hz] at cz
              simp only [show (k + k2) * 5 = k * 5 + k2 * 5 by omega] at cx
              simp only [show (k + m2) * 5 = k * 5 + m2 * 5 by omega] at cy
              have hst2 : stays (d.map Ent.txt) (k + k2) = !(x.txt == y.txt) := by
                have e3 : k + k2 = k + m2 + 1 := by omega
                rw [hx, hy]
                simp only [e3]
                exact hst
              have hc := sameText_walk x y
              have HX : Hid (x = d[k + k2]) := hx
              clear hx hy hst e1 e2 hz hm2
              obtain ⟨t3, q03, q13, q23, ao3, n13, cp3⟩ := x
              obtain ⟨u3, r03, r13, r23, bo3, n23, cq3⟩ := y
              obtain ⟨z0, z1, z2, z3, z4, z5, z6⟩ := z
              unfold Ent.enc at hc
              simp only [Ent.txt] at cx cy cz hc hst2
              have cx0 := fun n os => (cx n os).1
              have cx1 := fun n os => (cx n os).2.1
              have cx2 := fun n os => (cx n os).2.2.1
              have cx3 := fun n os => (cx n os).2.2.2.1
              have cx4 := fun n os => (cx n os).2.2.2.2
              have cy0 := fun n os => (cy n os).1
              have cy1 := fun n os => (cy n os).2.1
              have cy2 := fun n os => (cy n os).2.2.1
              have cy3 := fun n os => (cy n os).2.2.2.1
              have cy4 := fun n os => (cy n os).2.2.2.2
              have HC : Hid (∀ W, Calls Tryz.prog 34 #[.agg #[.string t3, .int .i64 q03, .int .i64 q13, .int .i64 q23, .slice ao3 n13 cp3], .agg #[.string u3, .int .i64 r03, .int .i64 r13, .int .i64 r23, .slice bo3 n23 cq3]] W fun e w' => e = .returned (.bool (t3.data.toList == u3.data.toList)) ∧ ∃ q os, w' = grow (W.drewN q) os) := hc
              clear cx cy hc
              generalize hb : (t3.data.toList == u3.data.toList) = b2 at HC hst2
              have HSt : Hid (stays (d.map Ent.txt) (k + k2) = !b2) := hst2
              clear hst2 hb
              go_wp2_with fail
              go_quiet_grown (first | (go_at_fn 34; refine Calls.grown_of (HC.out _)))
              have HR5 : Hid (RowOf g E (grow (wr.drewN nq) osq)) := row_grown HRw.out hgx nq osq
              have HG5 : Hid (w.grownBy (grow (wr.drewN nq) osq) (some g)) := grown_trans HGw.out (grown_weak (grown_grow nq osq) g)
              cases b2 with
              | true =>
                have HF : Hid (CRel w g k d (.int .i64 (kk : Int)) (.int .i64 ((k2 : Int) + 1)) (grow (wr.drewN nq) osq)) := by
                  have e1 : kept d (k + (k2 + 1)) = kept d (k + k2) := kept_no HSt.out
                  exact ⟨kk, k2 + 1, rfl, by simp, by omega, by omega, by omega, by rw [e1]; exact HKl.out, by rw [e1, ← HE.out]; exact HR5.out, HG5.out⟩
                clear cx0 cx1 cx2 cx3 cx4 cy0 cy1 cy2 cy3 cy4 cz fz
                go_wp2
                go_roundw
                case rel => exact HF.out
                case measure => simp [intOf]; omega
              | false =>
                have HF : Hid (CRel w g k d (.int .i64 ((kk : Int) + 1)) (.int .i64 ((k2 : Int) + 1)) ((grow (wr.drewN nq) osq).setCells g (kk * 5) (Ent.enc ⟨t3, q03, q13, q23, ao3, n13, cp3⟩))) := by
                  have e1 : kept d (k + (k2 + 1)) = kept d (k + k2) ++ [d[k + k2]] := kept_yes hlt2 HSt.out
                  have hd : d.drop kk = d[kk]'(by omega) :: d.drop (kk + 1) := List.drop_eq_getElem_cons (by omega)
                  have e2 : kept d (k + (k2 + 1)) ++ d.drop (kk + 1) = E.set kk ⟨t3, q03, q13, q23, ao3, n13, cp3⟩ := by
                    rw [e1, HE.out, List.set_append_right _ _ (by rw [← HKl.out]; exact Nat.le_refl _), ← HKl.out, Nat.sub_self, hd, List.set_cons_zero, HX.out]
                    simp
                  refine ⟨kk + 1, k2 + 1, by simp, by simp, by omega, by omega, by omega, ?_, ?_, grown_trans HG5.out (grown_setCells g _ _ _)⟩
                  · rw [e1, List.length_append, ← HKl.out]; rfl
                  · rw [e2]; exact row_set HR5.out kk (by omega) _
                have z0' := (cz nq osq).1
                have z1' := (cz nq osq).2.1
                have z2' := (cz nq osq).2.2.1
                have z3' := (cz nq osq).2.2.2.1
                have z4' := (cz nq osq).2.2.2.2
                have f0 := fz nq osq 0 (by decide)
                have f1 := fz nq osq 1 (by decide)
                have f2 := fz nq osq 2 (by decide)
                have f3 := fz nq osq 3 (by decide)
                have f4 := fz nq osq 4 (by decide)
                have x0' := cx0 nq osq
                have x1' := cx1 nq osq
                have x2' := cx2 nq osq
                have x3' := cx3 nq osq
                have x4' := cx4 nq osq
                rw [Nat.add_zero] at f0
                clear cx0 cx1 cx2 cx3 cx4 cy0 cy1 cy2 cy3 cy4 cz fz
                generalize hw5 : grow (wr.drewN nq) osq = w5 at *
                clear hw5
                go_wp2
                go_roundw
                case rel => exact HF.out
                case measure => simp [intOf]; omega
            · have hle2 : k + k2 = d.length := by omega
              have hcl : ∀ ty, (Builtin.clear_ #[86] ty #[.slice (some ⟨g, kk * 5, none⟩) (d.length - kk) (cap - kk)]).run Tryz.prog wr = .ok (.tuple #[]) (wr.setCells g (kk * 5) (Builtin.zeroCells #[.string ⟨#[]⟩, .int .i64 0, .int .i64 0, .int .i64 0, .slice none 0 0] (d.length - kk)).toList) := fun ty =>
                run_clear5 wr ty g (kk * 5) (d.length - kk) (cap - kk) (by omega) (fun j hj => (row_some HRw.out (kk * 5 + j) (by omega)).1) (fun j hj => (row_some HRw.out (kk * 5 + j) (by omega)).2)
              obtain ⟨zs, HZ⟩ : ∃ zs, Hid ((Builtin.zeroCells #[.string ⟨#[]⟩, .int .i64 0, .int .i64 0, .int .i64 0, .slice none 0 0] (d.length - kk)).toList = zs) := ⟨_, rfl⟩
              rw [HZ.out] at hcl
              have HF : Hid (∃ d' : List Ent, Ending.returned (.slice (some ⟨g, 0, none⟩) kk cap) = .returned (.slice (some ⟨g, 0, none⟩) d'.length cap) ∧ d'.map Ent.txt = Lst.once (d.map Ent.txt) ∧ RowOf g d' (wr.setCells g (kk * 5) zs) ∧ w.grownBy (wr.setCells g (kk * 5) zs) (some g)) := by
                refine ⟨kept d (k + k2), by rw [← HKl.out], ?_, ?_, grown_trans HGw.out (grown_setCells g _ _ _)⟩
                · rw [kept_map, hle2, ← keptT_once, List.length_map]
                · have := row_take HRw.out kk zs
                  rw [HE.out, List.take_append_of_le_length (by rw [← HKl.out]; exact Nat.le_refl _), List.take_of_length_le (by rw [← HKl.out]; exact Nat.le_refl _)] at this
                  exact this
              have hc1 : (kk : Int) ≤ (cap : Int) := by omega
              have hlt3 : ¬ (k2 : Int) < ((d.length - k : Nat) : Int) := by omega
              clear hle2 HZ
              go_wp2
              go_ret
              exact HF.out
      · have hk0 : k = d.length := by omega
        have HF : Hid (∃ d' : List Ent, Ending.returned (.slice (some ⟨g, 0, none⟩) d.length cap) = .returned (.slice (some ⟨g, 0, none⟩) d'.length cap) ∧ d'.map Ent.txt = Lst.once (d.map Ent.txt) ∧ RowOf g d' wr ∧ w.grownBy wr (some g)) := by
          refine ⟨d, rfl, ?_, HR.out, ?_⟩
          · rw [← keptT_once, List.length_map, ← kept_map, kept_all d.length (Nat.le_refl _) (fun j hj => HS.out j (by omega)), List.take_length]
          · obtain ⟨q, os, e⟩ := HW.out
            rw [e]; exact grown_weak (grown_grow q os) g
        have hlt' : ¬ (k : Int) < (d.length : Int) := by omega
        clear hk0
        go_wp2
        go_ret
        exact HF.out
end Go.Proofs.YtfngjfnakokgmaaGreatDoor
/- The document's own among, made, number, order, orderText, orderMark: each answers what the plain functions on lists tell. -/
namespace Go.Proofs.YtfngjfnakokgmaaGreatDoor
open Go.RowKit

theorem u8_beq (c d : UInt8) : ((c.toNat : Int) == (d.toNat : Int)) = (c == d) := by
  rw [Bool.eq_iff_iff]
  simp only [beq_iff_eq]
  exact ⟨fun e => UInt8.toNat_inj.1 (by omega), fun e => by rw [e]⟩
theorem contains_snoc (l : List UInt8) (d c : UInt8) : (l ++ [d]).contains c = (l.contains c || d == c) := by
  rw [Bool.eq_iff_iff]; simp; constructor <;> (rintro (h | h) <;> simp [h])

/-- Is c a byte of the text? -/
def hasB (l : List UInt8) (c : UInt8) : Bool := l.contains c
theorem among_walk (c : UInt8) (s : ByteArray) (w : World) (hs : s.size ≤ 1099511627776) :
    Calls Tryz.prog 48 #[.int .u8 c.toNat, .string s] w fun e w' => e = .returned (.bool (hasB s.data.toList c)) ∧ w' = w := by
  go_enter Tryz.func48, Tryz.ntmps48
  go_wp2
  go_loop [5] (fun i => ∃ k : Nat, k ≤ s.size ∧ i = .int .i64 k ∧ Hid (hasB (s.data.toList.take k) c = false)) (fun i => s.size - (intOf i).toNat)
  case atStart => exact ⟨0, Nat.zero_le _, rfl, rfl⟩
  case round =>
    obtain ⟨k, hk, rfl, HN⟩ := hrel
    by_cases hlt : k < s.size
    · have HT : Hid (s.data.toList.take (k + 1) = s.data.toList.take k ++ [s[k]]) := take_snoc s k hlt
      have hb := u8_beq s[k] c
      by_cases hc : (s[k] == c) = true
      · rw [hc] at hb
        have HR : Hid (hasB s.data.toList c = true) := by
          show _ = _
          rw [hasB, ← (beq_iff_eq.1 hc), List.contains_iff_mem]
          exact List.getElem_mem (l := s.data.toList) (n := k) (by rw [size_len]; exact hlt)
        clear hc
        go_wp2
        go_ret
        exact ⟨by rw [HR.out]; rfl, rfl⟩
      · have hc : (s[k] == c) = false := by simpa using hc
        rw [hc] at hb
        have HN' : Hid (hasB (s.data.toList.take (k + 1)) c = false) := by
          show _ = _
          have hn : (s.data.toList.take k).contains c = false := HN.out
          rw [hasB, HT.out, contains_snoc, hn, hc]; rfl
        clear hc
        go_wp2
        go_round
        case rel => exact ⟨k + 1, by omega, by go_num, HN'⟩
        case measure => simp [intOf]; omega
    · have HR : Hid (hasB s.data.toList c = false) := by
        show _ = _
        have ht : s.data.toList.take k = s.data.toList := List.take_of_length_le (by rw [size_len]; omega)
        rw [← ht]; exact HN.out
      go_wp2
      go_ret
      exact ⟨by rw [HR.out]; rfl, rfl⟩

/-- Is a text made of these bytes alone, of one at least? -/
def madeB (l o : List UInt8) : Bool := l.all (hasB o) && !l.isEmpty
theorem made_walk (s o : ByteArray) (w : World) (hs : s.size ≤ 1099511627776) (ho : o.size ≤ 1099511627776) :
    Calls Tryz.prog 28 #[.string s, .string o] w fun e w' => e = .returned (.bool (madeB s.data.toList o.data.toList)) ∧ w' = w := by
  go_enter Tryz.func28, Tryz.ntmps28
  go_wp2
  go_loop [5] (fun i => ∃ k : Nat, k ≤ s.size ∧ i = .int .i64 k ∧ Hid ((s.data.toList.take k).all (hasB o.data.toList) = true)) (fun i => s.size - (intOf i).toNat)
  case atStart => exact ⟨0, Nat.zero_le _, rfl, rfl⟩
  case round =>
    obtain ⟨k, hk, rfl, HN⟩ := hrel
    by_cases hlt : k < s.size
    · have HT : Hid (s.data.toList.take (k + 1) = s.data.toList.take k ++ [s[k]]) := take_snoc s k hlt
      go_wp2_with fail
      refine (among_walk s[k] o _ ho).mono ?_
      rintro e w' ⟨rfl, rfl⟩
      by_cases hc : hasB o.data.toList s[k] = true
      · have HN' : Hid ((s.data.toList.take (k + 1)).all (hasB o.data.toList) = true) := by
          show _ = _
          rw [HT.out, List.all_append, HN.out]
          simp only [List.all_cons, List.all_nil, Bool.and_true, Bool.true_and]
          exact hc
        rw [hc]
        clear hc
        go_wp2
        go_round
        case rel => exact ⟨k + 1, by omega, by go_num, HN'⟩
        case measure => simp [intOf]; omega
      · have hc : hasB o.data.toList s[k] = false := by simpa using hc
        have HR : Hid (madeB s.data.toList o.data.toList = false) := by
          show _ = _
          have : s.data.toList.all (hasB o.data.toList) = false := by
            rw [← Bool.not_eq_true]
            intro h
            have := List.all_eq_true.1 h s[k] (List.getElem_mem (l := s.data.toList) (n := k) (by rw [size_len]; exact hlt))
            rw [hc] at this
            cases this
          rw [madeB, this]; rfl
        rw [hc]
        clear hc
        go_wp2
        go_ret
        exact ⟨by rw [HR.out]; rfl, rfl⟩
    · have HR : Hid (madeB s.data.toList o.data.toList = decide ((0 : Int) < (s.size : Int))) := by
        show _ = _
        have ht : s.data.toList.take k = s.data.toList := List.take_of_length_le (by rw [size_len]; omega)
        have ha := HN.out
        rw [ht] at ha
        rw [madeB, ha, Bool.true_and, Bool.eq_iff_iff]
        simp only [Bool.not_eq_true', List.isEmpty_eq_false_iff, decide_eq_true_eq]
        rw [← size_len]
        constructor
        · intro h; have := List.length_pos_iff.2 h; omega
        · intro h e; rw [e] at h; simp at h
      go_wp2
      go_ret
      exact ⟨by rw [HR.out]; simp, rfl⟩

/-- ten: the ten digits. -/
def tenB : ByteArray := ⟨#[48, 49, 50, 51, 52, 53, 54, 55, 56, 57]⟩
theorem u8_iff (c d : UInt8) : c = d ↔ c.toNat = d.toNat := UInt8.toNat_inj.symm
theorem ten_contains (c : UInt8) : ([48, 49, 50, 51, 52, 53, 54, 55, 56, 57] : List UInt8).contains c = digB c := by
  rw [Bool.eq_iff_iff, digB]
  simp only [List.contains_iff_mem, List.mem_cons, List.not_mem_nil, or_false, decide_eq_true_eq, u8_iff]
  constructor
  · intro h; have e : (48 : UInt8).toNat = 48 ∧ (49 : UInt8).toNat = 49 ∧ (50 : UInt8).toNat = 50 ∧ (51 : UInt8).toNat = 51 ∧ (52 : UInt8).toNat = 52 ∧ (53 : UInt8).toNat = 53 ∧ (54 : UInt8).toNat = 54 ∧ (55 : UInt8).toNat = 55 ∧ (56 : UInt8).toNat = 56 ∧ (57 : UInt8).toNat = 57 := by decide
    omega
  · intro h; have e : (48 : UInt8).toNat = 48 ∧ (49 : UInt8).toNat = 49 ∧ (50 : UInt8).toNat = 50 ∧ (51 : UInt8).toNat = 51 ∧ (52 : UInt8).toNat = 52 ∧ (53 : UInt8).toNat = 53 ∧ (54 : UInt8).toNat = 54 ∧ (55 : UInt8).toNat = 55 ∧ (56 : UInt8).toNat = 56 ∧ (57 : UInt8).toNat = 57 := by decide
    omega
theorem made_ten (l : List UInt8) : madeB l [48, 49, 50, 51, 52, 53, 54, 55, 56, 57] = (l.all digB && !l.isEmpty) := by
  unfold madeB
  have : hasB ([48, 49, 50, 51, 52, 53, 54, 55, 56, 57] : List UInt8) = digB := funext ten_contains
  rw [this]

theorem refOrder_walk (x y : Int) (w : World) : Calls Tryz.prog 36 #[.int .i64 x, .int .i64 y] w fun e w' => e = .returned (.int .i64 (cmpI x y)) ∧ w' = w := by
  by_cases h1 : x < y
  · have HC : Hid (cmpI x y = -1) := by show _ = _; rw [cmpI, if_pos h1]
    go_enter Tryz.func36, Tryz.ntmps36
    go_wp2
    go_ret
    exact ⟨by rw [HC.out]; rfl, rfl⟩
  · by_cases h2 : y < x
    · have HC : Hid (cmpI x y = 1) := by show _ = _; rw [cmpI, if_neg h1, if_pos h2]
      go_enter Tryz.func36, Tryz.ntmps36
      go_wp2
      go_ret
      exact ⟨by rw [HC.out]; rfl, rfl⟩
    · have HC : Hid (cmpI x y = 0) := by show _ = _; rw [cmpI, if_neg h1, if_neg h2]
      go_enter Tryz.func36, Tryz.ntmps36
      go_wp2
      go_ret
      exact ⟨by rw [HC.out]; rfl, rfl⟩
end Go.Proofs.YtfngjfnakokgmaaGreatDoor
/- The document's own number, orderText, orderMark, split: each answers what the plain functions on lists tell. -/
namespace Go.Proofs.YtfngjfnakokgmaaGreatDoor
open Go.RowKit

/-- What the document's number tells of a text. -/
def numI (l : List UInt8) : Int := if numOk l then val l else -1
set_option maxHeartbeats 1000000 in
theorem refNumber_walk (s : ByteArray) (w : World) (hs : s.size ≤ 1099511627776) :
    Calls Tryz.prog 27 #[.string s] w fun e w' => e = .returned (.int .i64 (numI s.data.toList)) ∧ w' = w := by
  by_cases hm : madeB s.data.toList [48, 49, 50, 51, 52, 53, 54, 55, 56, 57] = true
  · have hm2 := hm
    rw [made_ten, Bool.and_eq_true, Bool.not_eq_true', List.isEmpty_eq_false_iff] at hm2
    obtain ⟨hd, hne⟩ := hm2
    have HNe : Hid (s.data.toList ≠ []) := hne
    have HDg : Hid (∀ c ∈ s.data.toList, digB c = true) := fun c hc => List.all_eq_true.1 hd c hc
    have HM : Hid (madeB s.data.toList [48, 49, 50, 51, 52, 53, 54, 55, 56, 57] = true) := hm
    have hpos : 0 < s.size := by rw [← size_len]; exact List.length_pos_iff.2 hne
    clear hm hd hne
    by_cases h9 : 9 < s.size
    · have HN : Hid (numI s.data.toList = -1) := by
        show _ = _
        rw [numI, if_neg]
        intro h
        have := (numOk_parts h).2.1
        rw [size_len] at this
        omega
      go_enter Tryz.func27, Tryz.ntmps27
      go_wp2_with fail
      refine (made_walk s ⟨#[48, 49, 50, 51, 52, 53, 54, 55, 56, 57]⟩ _ hs (by decide)).mono ?_
      rintro e w' ⟨he, rfl⟩
      obtain rfl : e = .returned (.bool true) := by rw [he]; exact congrArg (fun b => Ending.returned (.bool b)) HM.out
      clear he
      go_wp2
      go_ret
      exact ⟨by rw [HN.out]; rfl, rfl⟩
    · by_cases hz : s[0] = 48 ∧ 1 < s.size
      · have HN : Hid (numI s.data.toList = -1) := by
          show _ = _
          rw [numI, if_neg]
          intro h
          have := (numOk_parts h).2.2.1 (by rw [head_at hpos, hz.1])
          rw [size_len] at this
          omega
        obtain ⟨hz1, hz2⟩ := hz
        have hz3 : ((s[0].toNat : Int) == 48) = true := by rw [hz1]; rfl
        clear hz1
        go_enter Tryz.func27, Tryz.ntmps27
        go_wp2_with fail
        refine (made_walk s ⟨#[48, 49, 50, 51, 52, 53, 54, 55, 56, 57]⟩ _ hs (by decide)).mono ?_
        rintro e w' ⟨he, rfl⟩
        obtain rfl : e = .returned (.bool true) := by rw [he]; exact congrArg (fun b => Ending.returned (.bool b)) HM.out
        clear he
        go_wp2
        go_ret
        exact ⟨by rw [HN.out]; rfl, rfl⟩
      · have HZ : Hid (s.data.toList.head? = some 48 → s.data.toList.length ≤ 1) := by
          show _ → _
          intro e
          rw [head_at hpos] at e
          rw [size_len]
          have : ¬ 1 < s.size := fun h => hz ⟨Option.some.inj e, h⟩
          omega
        have HN : Hid (numI s.data.toList = val s.data.toList) := by
          show _ = _
          rw [numI, if_pos (numOk_mk HNe.out (by rw [size_len]; omega) HZ.out HDg.out)]
        have hz' : (1 < s.size ∧ ((s[0].toNat : Int) == 48) = false) ∨ ¬ 1 < s.size := by
          by_cases h1 : 1 < s.size
          · left
            refine ⟨h1, ?_⟩
            simp only [beq_eq_false_iff_ne, ne_eq]
            intro e2
            exact hz ⟨UInt8.toNat_inj.1 (by show s[0].toNat = 48; omega), h1⟩
          · exact Or.inr h1
        have h9b : decide ((9 : Int) < (s.size : Int)) = false := by simp only [decide_eq_false_iff_not]; omega
        clear hz HZ
        rcases hz' with ⟨h1, hz⟩ | h1
        all_goals
          first
            | have h1b : decide ((1 : Int) < (s.size : Int)) = true := by simp only [decide_eq_true_eq]; omega
            | have h1b : decide ((1 : Int) < (s.size : Int)) = false := by simp only [decide_eq_false_iff_not]; omega
          go_enter Tryz.func27, Tryz.ntmps27
          go_wp2_with fail
          refine (made_walk s ⟨#[48, 49, 50, 51, 52, 53, 54, 55, 56, 57]⟩ _ hs (by decide)).mono ?_
          rintro e w' ⟨he, rfl⟩
          obtain rfl : e = .returned (.bool true) := by rw [he]; exact congrArg (fun b => Ending.returned (.bool b)) HM.out
          clear he
          go_wp2
          go_loop [4, 5] (fun v i => ∃ k : Nat, k ≤ s.size ∧ i = .int .i64 k ∧ v = .int .i64 (val (s.data.toList.take k))) (fun _ i => s.size - (intOf i).toNat)
          case atStart => exact ⟨0, Nat.zero_le _, rfl, rfl⟩
          case round =>
            obtain ⟨k, hk, rfl, rfl⟩ := hrel
            have hdk : ∀ c ∈ s.data.toList.take k, digB c = true := fun c hc => HDg.out c (List.mem_of_mem_take hc)
            have hv0 := val_nonneg _ hdk
            have hv1 := val_bound _ hdk (by simp; omega)
            clear hdk
            by_cases hlt : k < s.size
            · have HT : Hid (s.data.toList.take (k + 1) = s.data.toList.take k ++ [s[k]]) := take_snoc s k hlt
              have HV : Hid (val (s.data.toList.take (k + 1)) = val (s.data.toList.take k) * 10 + ((s[k].toNat : Int) - 48)) := by
                show _ = _
                rw [HT.out, val_snoc]
              have hr := dig_range (HDg.out s[k] (List.getElem_mem (l := s.data.toList) (n := k) (by rw [size_len]; exact hlt)))
              obtain ⟨hr1, hr2⟩ := hr
              generalize val (s.data.toList.take k) = vk at *
              go_wp2
              go_round
              case rel => exact ⟨k + 1, by omega, by go_num, by rw [HV.out]; go_num⟩
              case measure => simp [intOf]; omega
            · have HV : Hid (val (s.data.toList.take k) = val s.data.toList) := by
                show _ = _
                rw [List.take_of_length_le (by rw [size_len]; omega)]
              go_wp2
              go_ret
              exact ⟨by rw [HN.out, ← HV.out]; rfl, rfl⟩
  · have hm : madeB s.data.toList [48, 49, 50, 51, 52, 53, 54, 55, 56, 57] = false := by simpa using hm
    have HM : Hid (madeB s.data.toList [48, 49, 50, 51, 52, 53, 54, 55, 56, 57] = false) := hm
    have HN : Hid (numI s.data.toList = -1) := by
      show _ = _
      rw [numI, if_neg]
      intro h
      obtain ⟨h1, _, _, h4⟩ := numOk_parts h
      rw [made_ten, List.all_eq_true.2 h4] at hm
      simp at hm
      exact h1 (by rw [hm])
    clear hm
    go_enter Tryz.func27, Tryz.ntmps27
    go_wp2_with fail
    refine (made_walk s ⟨#[48, 49, 50, 51, 52, 53, 54, 55, 56, 57]⟩ _ hs (by decide)).mono ?_
    rintro e w' ⟨he, rfl⟩
    obtain rfl : e = .returned (.bool false) := by rw [he]; exact congrArg (fun b => Ending.returned (.bool b)) HM.out
    clear he
    go_wp2
    go_ret
    exact ⟨by rw [HN.out]; rfl, rfl⟩
end Go.Proofs.YtfngjfnakokgmaaGreatDoor
