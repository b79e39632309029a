/- The fixed codes. -/
import Derived.Test.YtjilhneefbakhaaDoorCodeH
import Derived.Laws.Tables
namespace Go.Proofs.YtjilhneefbakhaaDoor.Inf
open Go.RowKit Go.Proofs.YtjilhneefbakhaaDoor.Sha

theorem cons_of {l : List Value} {n : Nat} (h : l.length = n + 1) : ∃ a t, l = a :: t ∧ t.length = n := by
  cases l with
  | nil => simp at h
  | cons a t => exact ⟨a, t, rfl, by simpa using h⟩
set_option maxRecDepth 100000 in
theorem built_codes (A B : List Value) (ha : A.length = 17) (hb : B.length = 17) : Tryd.prog.built 79 [(0, .agg A.toArray), (1, .agg B.toArray)] = some (A ++ B).toArray := by
  obtain ⟨a0, at0, rfl, ha0⟩ := cons_of ha
  obtain ⟨a1, at1, rfl, ha1⟩ := cons_of ha0
  obtain ⟨a2, at2, rfl, ha2⟩ := cons_of ha1
  obtain ⟨a3, at3, rfl, ha3⟩ := cons_of ha2
  obtain ⟨a4, at4, rfl, ha4⟩ := cons_of ha3
  obtain ⟨a5, at5, rfl, ha5⟩ := cons_of ha4
  obtain ⟨a6, at6, rfl, ha6⟩ := cons_of ha5
  obtain ⟨a7, at7, rfl, ha7⟩ := cons_of ha6
  obtain ⟨a8, at8, rfl, ha8⟩ := cons_of ha7
  obtain ⟨a9, at9, rfl, ha9⟩ := cons_of ha8
  obtain ⟨a10, at10, rfl, ha10⟩ := cons_of ha9
  obtain ⟨a11, at11, rfl, ha11⟩ := cons_of ha10
  obtain ⟨a12, at12, rfl, ha12⟩ := cons_of ha11
  obtain ⟨a13, at13, rfl, ha13⟩ := cons_of ha12
  obtain ⟨a14, at14, rfl, ha14⟩ := cons_of ha13
  obtain ⟨a15, at15, rfl, ha15⟩ := cons_of ha14
  obtain ⟨a16, at16, rfl, ha16⟩ := cons_of ha15
  obtain rfl := List.eq_nil_of_length_eq_zero ha16
  obtain ⟨b0, bt0, rfl, hb0⟩ := cons_of hb
  obtain ⟨b1, bt1, rfl, hb1⟩ := cons_of hb0
  obtain ⟨b2, bt2, rfl, hb2⟩ := cons_of hb1
  obtain ⟨b3, bt3, rfl, hb3⟩ := cons_of hb2
  obtain ⟨b4, bt4, rfl, hb4⟩ := cons_of hb3
  obtain ⟨b5, bt5, rfl, hb5⟩ := cons_of hb4
  obtain ⟨b6, bt6, rfl, hb6⟩ := cons_of hb5
  obtain ⟨b7, bt7, rfl, hb7⟩ := cons_of hb6
  obtain ⟨b8, bt8, rfl, hb8⟩ := cons_of hb7
  obtain ⟨b9, bt9, rfl, hb9⟩ := cons_of hb8
  obtain ⟨b10, bt10, rfl, hb10⟩ := cons_of hb9
  obtain ⟨b11, bt11, rfl, hb11⟩ := cons_of hb10
  obtain ⟨b12, bt12, rfl, hb12⟩ := cons_of hb11
  obtain ⟨b13, bt13, rfl, hb13⟩ := cons_of hb12
  obtain ⟨b14, bt14, rfl, hb14⟩ := cons_of hb13
  obtain ⟨b15, bt15, rfl, hb15⟩ := cons_of hb14
  obtain ⟨b16, bt16, rfl, hb16⟩ := cons_of hb15
  obtain rfl := List.eq_nil_of_length_eq_zero hb16
  kernel_rfl
theorem yields_build {P : Program} {ops : Array Oper} {S : World → Prop} {o : Oper} {a : Act} (hw : Region.wanted o (yielded ops a.tmps) = true) (t : TypeId) (parts : Array (Nat × Operand)) (ho : o.op = .build t parts) (cells : Array Value) (hc : P.built t (parts.map fun (i, x) => (i, a.eval x)).toList = some cells) : YieldsIf P ops S o (.agg cells) a := by
  refine .inl ⟨hw, fun w _ => ?_⟩
  unfold execOp
  simp only [ho, Sem.run_bind, run_build w t _ cells hc, Result.andThen_ok]
  rfl
/-- The first k of a list, then zeros. -/
def fillK (L : List Nat) (k : Nat) : List Nat := L.take k ++ List.replicate (L.length - k) 0
theorem fillK_len (L : List Nat) (k : Nat) : (fillK L k).length = L.length := by simp [fillK]; omega
theorem fillK_all (L : List Nat) : fillK L L.length = L := by simp [fillK]
theorem fillK_step (L : List Nat) (k x : Nat) (h : L[k]? = some x) : (fillK L k).set k x = fillK L (k + 1) := by
  have hk := (List.getElem?_eq_some_iff.1 h)
  have hk1 := hk.1
  apply List.ext_getElem?
  intro i
  rw [List.getElem?_set, fillK_len]
  unfold fillK
  by_cases hi : k = i
  · subst hi
    rw [if_pos rfl, if_pos hk.1, List.getElem?_append_left (by simp; omega), List.getElem?_take_of_lt (by omega), h]
  · rw [if_neg hi]
    rcases Nat.lt_or_ge i k with h1 | h1
    · rw [List.getElem?_append_left (by simp; omega), List.getElem?_append_left (by simp; omega), List.getElem?_take_of_lt h1, List.getElem?_take_of_lt (by omega)]
    · rw [List.getElem?_append_right (by simp; omega), List.getElem?_append_right (by simp; omega), List.getElem?_replicate, List.getElem?_replicate]
      simp only [List.length_take]
      by_cases h2 : i < L.length
      · rw [if_pos (by omega), if_pos (by omega)]
      · rw [if_neg (by omega), if_neg (by omega)]
theorem fixN_len : fixN.length = 288 := by decide +kernel
theorem fixD_len : fixD.length = 32 := by simp [fixD]
theorem fixN_get (k : Nat) (hk : k < 288) : fixN[k]? = some (if k < 144 then 8 else if k < 256 then 9 else if k < 280 then 7 else 8) := by
  have : ∀ k ∈ List.range 288, fixN[k]? = some (if k < 144 then 8 else if k < 256 then 9 else if k < 280 then 7 else 8) := by decide +kernel
  exact this k (List.mem_range.2 hk)
theorem fixD_get (k : Nat) (hk : k < 32) : fixD[k]? = some 5 := by
  have : ∀ k ∈ List.range 32, fixD[k]? = some 5 := by decide +kernel
  exact this k (List.mem_range.2 hk)
theorem fixN_15 : ∀ x ∈ fixN, x ≤ 15 := by decide +kernel
theorem fixD_15 : ∀ x ∈ fixD, x ≤ 15 := by decide +kernel
/-- What lies in memory while the fixed codes are made. -/
structure FxW (w : World) (L D : List Nat) (z : Nat) (wr : World) : Prop where
  lb : Blk wr (w.heap.size + 1) L
  db : Blk wr (w.heap.size + 2) D
  res : wr.there w.heap.size 0 34
  bel : Below w.heap.size w wr
  siz : w.heap.size + z ≤ wr.heap.size
section
variable {w wr w2 : World} {L D : List Nat} {z : Nat}
theorem FxW.setA (h : FxW w L D z wr) (k y : Nat) (hk : k < L.length) : FxW w (L.set k y) D z (wr.setCell ⟨w.heap.size + 1, k, none⟩ (.int .i64 (y : Int))) :=
  ⟨h.lb.set k y hk, h.db.other (by omega), there_set h.res _ _, h.bel.setCell (p := ⟨w.heap.size + 1, k, none⟩) (show w.heap.size ≤ w.heap.size + 1 by omega) _, by simpa using h.siz⟩
theorem FxW.setD (h : FxW w L D z wr) (k y : Nat) (hk : k < D.length) : FxW w L (D.set k y) z (wr.setCell ⟨w.heap.size + 2, k, none⟩ (.int .i64 (y : Int))) :=
  ⟨h.lb.other (by omega), h.db.set k y hk, there_set h.res _ _, h.bel.setCell (p := ⟨w.heap.size + 2, k, none⟩) (show w.heap.size ≤ w.heap.size + 2 by omega) _, by simpa using h.siz⟩
theorem FxW.step (h : FxW w L D 3 wr) (hb : Below wr.heap.size wr w2) : FxW w L D 3 w2 := by
  have hs := h.siz
  exact ⟨h.lb.step hb (by omega), h.db.step hb (by omega), there_block h.res (hb.block _ (by omega)), h.bel.trans (hb.mono h.bel.size), Nat.le_trans hs hb.size⟩
theorem FxW.start (w : World) (A B : Array Value) (t t2 : TypeId) (hA : A.size = 34) (hB : B = ((fillK fixN 0).map fun x => Value.int .i64 ((x : Nat) : Int)).toArray) : FxW w (fillK fixN 0) [] 2 ((w.alloc (.cells A t)).alloc (.cells B t2)) := by
  have hs : (w.alloc (.cells A t)).heap.size = w.heap.size + 1 := by simp
  have h1 := blk_alloc (w.alloc (.cells A t)) (fillK fixN 0) B t2 hB
  rw [hs] at h1
  exact ⟨h1, Blk.nil _ _, there_block (there_alloc w A t 34 hA.symm) ((below_one _ _).block _ (by omega)), (below_one w _).trans ((below_one _ _).mono (by simp)), by simp⟩
theorem FxW.more (h : FxW w L [] 2 wr) (hs : wr.heap.size = w.heap.size + 2) (B : Array Value) (t : TypeId) (hB : B = ((fillK fixD 0).map fun x => Value.int .i64 ((x : Nat) : Int)).toArray) : FxW w L (fillK fixD 0) 3 (wr.alloc (.cells B t)) := by
  have h1 := blk_alloc wr (fillK fixD 0) B t hB
  rw [hs] at h1
  have hb := below_one wr (.cells B t)
  exact ⟨h.lb.step hb (by omega), h1, there_block h.res (hb.block _ (by omega)), h.bel.trans (hb.mono h.bel.size), by simp [hs]⟩
end
section
variable {mb base : Nat} {s : ByteArray} {a b : Nat} {out : List UInt8} {most : Nat} {bad : Bool} {w : World}
set_option maxRecDepth 100000 in
set_option maxHeartbeats 4000000 in
theorem fixedCodes_walk (FN FD : List Nat) (HFN : Hid (FN = fixN)) (HFD : Hid (FD = fixD)) (h : MA mb base s a b out most bad w) :
    Calls Tryd.prog 31 #[] w fun e w' => ∃ C1 C2, e = .returned (.agg (C1 ++ C2).toArray) ∧ Below w.heap.size w w' ∧ CodeVal mb w' FN C1 ∧ CodeVal mb w' FD C2 ∧ Fresh w.heap.size C1 ∧ Fresh w.heap.size C2 := by
  have HN2 : Hid (FN.length = 288 ∧ 0 < FN.length ∧ FN.length ≤ 1000 ∧ (∀ x ∈ FN, x ≤ 15)) := by rw [HFN.out]; exact ⟨fixN_len, by rw [fixN_len]; decide, by rw [fixN_len]; decide, fixN_15⟩
  have HD2 : Hid (FD.length = 32 ∧ 0 < FD.length ∧ FD.length ≤ 1000 ∧ (∀ x ∈ FD, x ≤ 15)) := by rw [HFD.out]; exact ⟨fixD_len, by rw [fixD_len]; decide, by rw [fixD_len]; decide, fixD_15⟩
  have HS : Hid (∀ A B t t2, A.size = 34 → B = ((fillK fixN 0).map fun x => Value.int .i64 ((x : Nat) : Int)).toArray → FxW w (fillK FN 0) [] 2 ((w.alloc (.cells A t)).alloc (.cells B t2))) := by rw [HFN.out]; exact fun A B t t2 => FxW.start w A B t t2
  have hlb : mb < base := MA.lt h
  have hbl : base ≤ w.heap.size := MA.bl h
  go_enter Tryd.func31, Tryd.ntmps31
  go_wp2
  go_loopw [2, 5] (fun _ i wr => ∃ k : Nat, k ≤ 288 ∧ i = .int .i64 k ∧ FxW w (fillK FN k) [] 2 wr ∧ wr.heap.size = w.heap.size + 2) (fun _ i _ => 288 - (intOf i).toNat)
  case atStart => exact ⟨0, by omega, rfl, HS.out _ _ _ _ rfl rfl, by simp⟩
  case round =>
    obtain ⟨k, hk, rfl, hW, hsz⟩ := hrel
    by_cases hlt : k < 288
    · have hlt' : (k : Int) < 288 := by omega
      obtain ⟨y0, hy0⟩ : ∃ y0, (fillK FN k)[k]? = some y0 := ⟨_, List.getElem?_eq_getElem (by rw [fillK_len, HN2.out.1]; exact hlt)⟩
      obtain ⟨ck, cf⟩ := hW.lb.at k y0 hy0
      clear hy0
      by_cases h1 : k < 144
      · have h1' : (k : Int) < 144 := by omega
        have hW2 := hW.setA k 8 (by rw [fillK_len, HN2.out.1]; exact hlt)
        rw [fillK_step FN k 8 (by rw [HFN.out, fixN_get k hlt]; (repeat' split) <;> first | rfl | omega)] at hW2
        have HW2 : Hid (FxW w (fillK FN (k + 1)) [] 2 (wr.setCell ⟨w.heap.size + 1, k, none⟩ (.int .i64 8))) := hW2
        clear hW2 hW
        go_wp2
        go_roundw
        case rel => exact ⟨k + 1, by omega, by go_num, HW2.out, by simpa using hsz⟩
        case measure => simp [intOf]; omega
      · have h1' : ¬ (k : Int) < 144 := by omega
        by_cases h2 : k < 256
        · have h2' : (k : Int) < 256 := by omega
          have hW2 := hW.setA k 9 (by rw [fillK_len, HN2.out.1]; exact hlt)
          rw [fillK_step FN k 9 (by rw [HFN.out, fixN_get k hlt]; (repeat' split) <;> first | rfl | omega)] at hW2
          have HW2 : Hid (FxW w (fillK FN (k + 1)) [] 2 (wr.setCell ⟨w.heap.size + 1, k, none⟩ (.int .i64 9))) := hW2
          clear hW2 hW
          go_wp2
          go_roundw
          case rel => exact ⟨k + 1, by omega, by go_num, HW2.out, by simpa using hsz⟩
          case measure => simp [intOf]; omega
        · have h2' : ¬ (k : Int) < 256 := by omega
          by_cases h3 : k < 280
          · have h3' : (k : Int) < 280 := by omega
            have hW2 := hW.setA k 7 (by rw [fillK_len, HN2.out.1]; exact hlt)
            rw [fillK_step FN k 7 (by rw [HFN.out, fixN_get k hlt]; (repeat' split) <;> first | rfl | omega)] at hW2
            have HW2 : Hid (FxW w (fillK FN (k + 1)) [] 2 (wr.setCell ⟨w.heap.size + 1, k, none⟩ (.int .i64 7))) := hW2
            clear hW2 hW
            go_wp2
            go_roundw
            case rel => exact ⟨k + 1, by omega, by go_num, HW2.out, by simpa using hsz⟩
            case measure => simp [intOf]; omega
          · have h3' : ¬ (k : Int) < 280 := by omega
            have hW2 := hW.setA k 8 (by rw [fillK_len, HN2.out.1]; exact hlt)
            rw [fillK_step FN k 8 (by rw [HFN.out, fixN_get k hlt]; (repeat' split) <;> first | rfl | omega)] at hW2
            have HW2 : Hid (FxW w (fillK FN (k + 1)) [] 2 (wr.setCell ⟨w.heap.size + 1, k, none⟩ (.int .i64 8))) := hW2
            clear hW2 hW
            go_wp2
            go_roundw
            case rel => exact ⟨k + 1, by omega, by go_num, HW2.out, by simpa using hsz⟩
            case measure => simp [intOf]; omega
    · have hlt' : ¬ (k : Int) < 288 := by omega
      have hk288 : k = 288 := by omega
      have hA : fillK FN k = FN := by rw [hk288, ← HN2.out.1]; exact fillK_all _
      rw [hA] at hW
      have HW3 : Hid (∀ B t, B = ((fillK fixD 0).map fun x => Value.int .i64 ((x : Nat) : Int)).toArray → FxW w FN (fillK FD 0) 3 (wr.alloc (.cells B t))) := by rw [HFD.out]; exact fun B t hB => hW.more hsz B t hB
      clear hW hA hk288 hk hlt
      go_wp2
      go_loopw [4, 26] (fun _ i wr => ∃ k : Nat, k ≤ 32 ∧ i = .int .i64 k ∧ FxW w FN (fillK FD k) 3 wr) (fun _ i _ => 32 - (intOf i).toNat)
      case atStart => exact ⟨0, by omega, rfl, HW3.out _ _ rfl⟩
      case round =>
        clear HW3
        obtain ⟨k, hk, rfl, hW⟩ := hrel
        by_cases hlt : k < 32
        · have hlt' : (k : Int) < 32 := by omega
          obtain ⟨y0, hy0⟩ : ∃ y0, (fillK FD k)[k]? = some y0 := ⟨_, List.getElem?_eq_getElem (by rw [fillK_len, HD2.out.1]; exact hlt)⟩
          obtain ⟨ck, cf⟩ := hW.db.at k y0 hy0
          clear hy0
          have hW2 := hW.setD k 5 (by rw [fillK_len, HD2.out.1]; exact hlt)
          rw [fillK_step FD k 5 (by rw [HFD.out]; exact fixD_get k hlt)] at hW2
          have HW2 : Hid (FxW w FN (fillK FD (k + 1)) 3 (wr.setCell ⟨w.heap.size + 2, k, none⟩ (.int .i64 5))) := hW2
          clear hW2 hW
          go_wp2
          go_roundw
          case rel => exact ⟨k + 1, by omega, by go_num, HW2.out⟩
          case measure => simp [intOf]; omega
        · have hlt' : ¬ (k : Int) < 32 := by omega
          have hk32 : k = 32 := by omega
          have hA : fillK FD k = FD := by rw [hk32, ← HD2.out.1]; exact fillK_all _
          rw [hA] at hW
          have hWd : FxW w FN FD 3 wr.drew := ⟨hW.lb.drew 1, hW.db.drew 1, hW.res, hW.bel.trans ((below_drewN 1).mono hW.bel.size), hW.siz⟩
          have hMd : MA mb base s a b out most bad wr.drew := h.away (Nat.le_trans (by omega) hWd.siz) (fun k hk => hWd.bel.block k (by rcases hk with rfl | hk; omega; exact (h.outlt hk).1))
          clear hW hA hk32 hk hlt
          go_wp2_with fail
          clear HS
          refine wp_region_noPanic ?_
          refine wp_region_held_drew (S := fun _ => True) (by kernel_rfl) trivial (fun _ => ?_)
          refine wpAnyH_take (i := 0) (oi := ⟨some 32, _, _, _, _, _⟩) (v := .slice (some ⟨w.heap.size + 1, 0, none⟩) 288 288) rfl (by kernel_rfl) (by kernel_rfl) (by kernel_rfl) (fun _ _ _ h => h) (Or.inl ⟨by rfl, fun w' _ => ?_⟩) trivial ?_
          · go_simp
          try simp only [Act.put]
          try simp only [List.setIfInBounds_toArray]
          try simp only [List.set_cons_succ]
          try simp only [List.set_cons_zero]
          refine wpAnyH_take (i := 2) (oi := ⟨some 34, _, _, _, _, _⟩) (v := .slice (some ⟨w.heap.size + 2, 0, none⟩) 32 32) rfl (by kernel_rfl) (by kernel_rfl) (by kernel_rfl) (fun _ _ _ h => h) (Or.inl ⟨by rfl, fun w' _ => ?_⟩) trivial ?_
          · go_simp
          try simp only [Act.put]
          try simp only [List.setIfInBounds_toArray]
          try simp only [List.set_cons_succ]
          try simp only [List.set_cons_zero]
          refine wpAnyH_ready (rs := [1]) (by kernel_rfl) (by simp) ?_
          refine AllReadyH.cons (o := ⟨some 33, _, _, _, _, _⟩) rfl (fun K hK => ?_) AllReadyH.nil
          go_simp
          refine (makeCode_val hMd (lb := w.heap.size + 1) (lo := 0) (lens := FN) (fun j x hj => by rw [Nat.zero_add]; exact hWd.lb.cell j x hj) HN2.out.2.1 HN2.out.2.2.1 HN2.out.2.2.2 288 HN2.out.1.symm).mono ?_
          rintro e w2 ⟨Va, rfl, hBb, hVa, HGa⟩
          have hW2 := hWd.step hBb
          have hM2 := MA.grow hMd hBb
          have hml2 : mb < w2.heap.size := (by have := hW2.siz; omega)
          refine hK.out _ _ trivial (fun _ => ?_)
          clear hK K
          try simp only [Act.put]
          try simp only [List.setIfInBounds_toArray]
          try simp only [List.set_cons_succ]
          try simp only [List.set_cons_zero]
          refine wpAnyH_ready (rs := [3]) (by kernel_rfl) (by simp) ?_
          refine AllReadyH.cons (o := ⟨some 35, _, _, _, _, _⟩) rfl (fun K hK => ?_) AllReadyH.nil
          go_simp
          refine (makeCode_val hM2 (lb := w.heap.size + 2) (lo := 0) (lens := FD) (fun j x hj => by rw [Nat.zero_add]; exact hW2.db.cell j x hj) HD2.out.2.1 HD2.out.2.2.1 HD2.out.2.2.2 32 HD2.out.1.symm).mono ?_
          rintro e w3 ⟨Vb, rfl, hBc, hVb, HGb⟩
          have hW3 := hW2.step hBc
          have hVa3 := hVa.step hBc hml2
          have hla := hVa.len
          have hlb2 := hVb.len
          have hml3 : mb < w3.heap.size := Nat.lt_of_lt_of_le hml2 hBc.size
          refine hK.out _ _ trivial (fun _ => ?_)
          clear hK K
          try simp only [Act.put]
          try simp only [List.setIfInBounds_toArray]
          try simp only [List.set_cons_succ]
          try simp only [List.set_cons_zero]
          refine wpAnyH_take (i := 4) (oi := ⟨some 36, _, _, _, _, _⟩) (v := .agg (Va ++ Vb).toArray) rfl (by kernel_rfl) (by kernel_rfl) (by kernel_rfl) (fun _ _ _ h => h) (yields_build rfl 79 #[(0, .tmp 33), (1, .tmp 35)] rfl _ (by simpa [Act.eval] using built_codes Va Vb hla hlb2)) trivial ?_
          try simp only [Act.put]
          try simp only [List.setIfInBounds_toArray]
          try simp only [List.set_cons_succ]
          try simp only [List.set_cons_zero]
          obtain ⟨V, HV⟩ : ∃ V, Hid (Va ++ Vb = V) := ⟨_, rfl⟩
          rw [HV.out]
          have hVl : V.length = 34 := by rw [← HV.out, List.length_append, hla, hlb2]
          have hIA : (Tryd.prog.info? 79).map (·.size) = some V.length := by rw [hVl]; exact codesInfo
          have hVo : V.toArray.all (·.oneCell') = true := all_oneCell_toArray (by rw [← HV.out]; intro v hv; rcases List.mem_append.1 hv with hv | hv; exact hVa.one v hv; exact hVb.one v hv)
          have hTh : w3.there w.heap.size 0 V.toArray.size := by show w3.there _ _ V.length; rw [hVl]; exact hW3.res
          refine wpAnyH_ready (rs := [5]) (by kernel_rfl) (by simp) ?_
          refine AllReadyH.cons (o := ⟨none, _, _, _, _, _⟩) rfl (fun K hK => ?_) AllReadyH.nil
          rw [if_pos (by rfl)]
          refine wp_store_mid 79 (.tmp 0) (.tmp 36) rfl w.heap.size 0 V.toArray rfl rfl hTh hIA hVo ?_
          refine hK.out _ _ trivial (fun _ => ?_)
          clear hK K
          try simp only [Act.put]
          try simp only [List.setIfInBounds_toArray]
          try simp only [List.set_cons_succ]
          try simp only [List.set_cons_zero]
          refine wpAnyH_done (by kernel_rfl) ?_ _
          refine NoPanic.normal ?_
          have HTh : Hid (w3.there w.heap.size 0 V.length) := hTh
          have HI2 : Hid ((Tryd.prog.info? 79).map (·.size) = some V.length) := hIA
          have hsz3 := hW3.siz
          have HP : Hid (Below w.heap.size w (w3.setCells w.heap.size 0 V) ∧ CodeVal mb (w3.setCells w.heap.size 0 V) FN Va ∧ CodeVal mb (w3.setCells w.heap.size 0 V) FD Vb ∧ Fresh w.heap.size Va ∧ Fresh w.heap.size Vb) := by
            have hFa : Fresh (w.heap.size + 1) Va := Fresh.mono HGa.out (by have := hWd.siz; omega)
            have hFb : Fresh (w.heap.size + 1) Vb := Fresh.mono HGb.out (by have := hW2.siz; omega)
            exact ⟨below_setCells _ (Nat.le_refl _) _ _ _ hW3.bel, hVa3.sets hFa (by omega) (by omega) hml3 0 V, hVb.sets hFb (by omega) (by omega) hml3 0 V, hFa.mono (by omega), hFb.mono (by omega)⟩
          clear hTh hIA hVo hW3 hVa3 hVb hW2 hM2 hMd hWd hVa hBb hBc
          go_wp2
          exact bodyPost_ret (v := .agg V.toArray) (results_cell_mid rfl _ _ w.heap.size V _ rfl (rangeAt_put _ _ _ HTh.out) Tryd.underlying79 rfl HI2.out) rfl ⟨Va, Vb, by rw [HV.out], HP.out⟩
end
end Go.Proofs.YtjilhneefbakhaaDoor.Inf
