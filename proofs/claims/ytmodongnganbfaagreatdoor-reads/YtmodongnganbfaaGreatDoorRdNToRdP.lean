/- Replies: the document's span. -/
import Derived.Test.YtmodongnganbfaaGreatDoorRdM
namespace Go.Proofs.YtmodongnganbfaaGreatDoor.Rep
open Go.RowKit Go.Proofs.YtmodongnganbfaaGreatDoor Go.Proofs.YtmodongnganbfaaGreatDoor.Sha
theorem results_tmp4 {fn : Func} {t u v x : Tmp} (h : fn.results = #[.tmp t, .tmp u, .tmp v, .tmp x]) (tmps : Array Value) (P : Program) (w : World) :
    (results fn tmps).run P w = .ok (.tuple #[tmps.getD t undef, tmps.getD u undef, tmps.getD v undef, tmps.getD x undef]) w := by
  simp [results, h]
def SpanE (l : Bytes) (e : Ending) : Prop := ∃ a b t ok, e = .returned (.tuple #[.int .i64 a, .int .i64 b, .int .i64 t, .bool ok]) ∧ SpanR l a b t ok
theorem few_list (l : Bytes) (w : World) (hs : l.length ≤ 1000) : Calls Tryz.prog 52 #[.string ⟨l.toArray⟩] w fun e w' => e = .returned (.int .i64 (fewI l)) ∧ w' = w := by
  have h := few_walk ⟨l.toArray⟩ w (by show l.toArray.size ≤ _; simpa using hs)
  simpa using h
set_option maxHeartbeats 2000000 in
set_option maxRecDepth 100000 in
theorem span_walk (s : ByteArray) (w : World) (hs : s.size ≤ 1000) :
    Calls Tryz.prog 53 #[.string s] w fun e w' => SpanE s.data.toList e ∧ Below w.heap.size w w' := by
  have hlen := size_len s
  by_cases h6 : s.size < 6
  · have h6' : (s.size : Int) < 6 := by omega
    have HF : Hid (SpanE s.data.toList (.returned (.tuple #[.int .i64 0, .int .i64 0, .int .i64 0, .bool false]))) :=
      ⟨0, 0, 0, false, rfl, SpanR.no (span_no (fun e => by have := congrArg List.length e; simp at this; omega)) 0 0 0⟩
    clear hlen
    go_enter Tryz.func53, Tryz.ntmps53
    go_wp2
    refine bodyPost_ret (results_tmp4 rfl _ _ _) rfl ?_
    exact ⟨HF.out, Below.refl _ _⟩
  · have h6' : ¬ (s.size : Int) < 6 := by omega
    obtain ⟨p6, hp6⟩ : ∃ p6 : ByteArray, p6 = s.extract 0 6 := ⟨_, rfl⟩
    have hp6l : p6.data.toList = s.data.toList.take 6 := by rw [hp6, extract_list]; simp
    have hsl : ∀ wx, (Instr.slice 9 (.string s) none (some (.int .i64 6)) none).run Tryz.prog wx = .ok (.string p6) wx := fun wx => by
      rw [run_slice_string_to_if wx 9 s .i64 6 Tryz.underlying9, if_pos (by omega), hp6]; rfl
    clear hp6
    by_cases hb : s.data.toList.take 6 = [98, 121, 116, 101, 115, 32]
    · have e6 : p6 = ⟨#[98, 121, 116, 101, 115, 32]⟩ := ba_ext (by rw [hp6l, hb])
      have HB : Hid (s.data.toList.take 6 = [98, 121, 116, 101, 115, 32]) := hb
      clear hb hp6l
      subst e6
      obtain ⟨r, hr⟩ : ∃ r : ByteArray, r = s.extract 6 s.size := ⟨_, rfl⟩
      have HRl : Hid (r.data.toList = s.data.toList.drop 6) := by show _ = _; rw [hr, extract_list, List.take_of_length_le (by rw [List.length_drop, hlen]; omega)]
      have hrs : r.size ≤ 1000 := by rw [← size_len, HRl.out, List.length_drop]; omega
      have hsl2 : ∀ wx, (Instr.slice 9 (.string s) (some (.int .i64 6)) none none).run Tryz.prog wx = .ok (.string r) wx := fun wx => by
        rw [run_slice_string_from_if wx 9 s .i64 6 Tryz.underlying9, if_pos (by omega), hr]; rfl
      clear hr hlen
      have HSp : Hid (∀ w, Calls Tryz.prog 72 #[.string r, .int .u8 47] w fun e w' => ∃ ao n cap, e = .returned (.slice ao n cap) ∧ n = (splC 47 r.data.toList).length ∧ n ≤ 1001 ∧ (∀ p q, splC 47 r.data.toList = [p, q] → ∃ g, ao = some ⟨g, 0, none⟩ ∧ 2 ≤ cap ∧ w'.cell? ⟨g, 0, none⟩ = some (.string ⟨p.toArray⟩) ∧ w'.cell? ⟨g, 1, none⟩ = some (.string ⟨q.toArray⟩)) ∧ Below w.heap.size w w') := fun w => split_two r 47 w hrs
      go_enter Tryz.func53, Tryz.ntmps53
      go_wp2_with fail
      refine (HSp.out w).mono ?_
      rintro e w1 ⟨ao, n, cap, rfl, hn, hn1, hpq, hB1⟩
      have HE0 : Hid (span s.data.toList = none → SpanE s.data.toList (.returned (.tuple #[.int .i64 0, .int .i64 0, .int .i64 0, .bool false]))) := fun e => ⟨0, 0, 0, false, rfl, SpanR.no e 0 0 0⟩
      have HAt : Hid (span s.data.toList = spanR r.data.toList) := by show _ = _; rw [span_at HB.out, HRl.out]
      have HB1 : Hid (Below w.heap.size w w1) := hB1
      by_cases h2 : (splC 47 r.data.toList).length = 2
      · obtain ⟨p, q, hpq'⟩ : ∃ p q, splC 47 r.data.toList = [p, q] := by
          match hh : splC 47 r.data.toList, h2 with
          | [p, q], _ => exact ⟨p, q, rfl⟩
        obtain ⟨g, rfl, hcap, hg0, hg1⟩ := hpq p q hpq'
        have en : n = 2 := by rw [hn, h2]
        have HPQ : Hid (splC 47 r.data.toList = [p, q]) := hpq'
        have hpl : p.length ≤ 1000 ∧ q.length ≤ 1000 := by
          have := (splC_len 47 r.data.toList).1
          rw [hpq'] at this
          have h1 := this p (by simp)
          have h2 := this q (by simp)
          rw [size_len] at h1 h2
          omega
        obtain ⟨hpl, hql⟩ := hpl
        have hps : (⟨p.toArray⟩ : ByteArray).size ≤ 1000 := by show p.toArray.size ≤ _; simpa using hpl
        clear hpq hpq' hn h2 hB1
        subst en
        have HSp2 : Hid (Calls Tryz.prog 72 #[.string ⟨p.toArray⟩, .int .u8 45] w1 fun e w' => ∃ ao n cap, e = .returned (.slice ao n cap) ∧ n = (splC 45 p).length ∧ n ≤ 1001 ∧ (∀ u v, splC 45 p = [u, v] → ∃ g, ao = some ⟨g, 0, none⟩ ∧ 2 ≤ cap ∧ w'.cell? ⟨g, 0, none⟩ = some (.string ⟨u.toArray⟩) ∧ w'.cell? ⟨g, 1, none⟩ = some (.string ⟨v.toArray⟩)) ∧ Below w1.heap.size w1 w') := by
          have := split_two ⟨p.toArray⟩ 45 w1 hps
          show Calls _ _ _ _ _
          simpa using this
        have hlg : g < w1.heap.size := lt_of_cell hg1
        go_wp2_with fail
        refine HSp2.out.mono ?_
        rintro e w2 ⟨ao2, n2, cap2, rfl, hn2, hn21, hpq2, hB2⟩
        have HB2 : Hid (Below w.heap.size w w2) := HB1.out.trans (hB2.mono HB1.out.size)
        have k1 : w2.cell? ⟨g, 1, none⟩ = some (.string ⟨q.toArray⟩) := cell_below hB2 hg1
        by_cases h3 : (splC 45 p).length = 2
        · obtain ⟨u, v, huv'⟩ : ∃ u v, splC 45 p = [u, v] := by
            match hh : splC 45 p, h3 with
            | [u, v], _ => exact ⟨u, v, rfl⟩
          obtain ⟨g2, rfl, hcap2, hu0, hu1⟩ := hpq2 u v huv'
          have en2 : n2 = 2 := by rw [hn2, h3]
          have hul : u.length ≤ 1000 ∧ v.length ≤ 1000 := by
            have := (splC_len 45 p).1
            rw [huv'] at this
            have h1 := this u (by simp)
            have h2 := this v (by simp)
            omega
          have HF : Hid (SpanE s.data.toList (.returned (.tuple #[.int .i64 (fewI u), .int .i64 (fewI v), .int .i64 (fewI q), .bool (decide (0 ≤ fewI u) && (decide (fewI u ≤ fewI v) && decide (fewI v < fewI q)))]))) :=
            ⟨_, _, _, _, rfl, SpanR.of (by rw [HAt.out]; exact spanR_two HPQ.out huv')⟩
          have HU := few_list u w2 hul.1
          have HV := few_list v w2 hul.2
          have HQ := few_list q w2 hql
          clear hpq2 huv' hn2 h3 hB2 hul
          subst en2
          obtain ⟨x, hx⟩ : ∃ x, fewI u = x := ⟨_, rfl⟩
          obtain ⟨y, hy⟩ : ∃ y, fewI v = y := ⟨_, rfl⟩
          obtain ⟨z, hz⟩ : ∃ z, fewI q = z := ⟨_, rfl⟩
          rw [hx, hy, hz] at HF
          rw [hx] at HU
          rw [hy] at HV
          rw [hz] at HQ
          clear hx hy hz
          go_wp2_with fail
          refine HU.mono ?_
          rintro e w3 ⟨rfl, rfl⟩
          go_wp2_with fail
          refine HV.mono ?_
          rintro e w4 ⟨rfl, rfl⟩
          go_wp2_with fail
          refine HQ.mono ?_
          rintro e w5 ⟨rfl, rfl⟩
          by_cases q1 : 0 ≤ x
          · by_cases q2 : x ≤ y
            · rw [decide_eq_true q1, decide_eq_true q2, Bool.true_and, Bool.true_and] at HF
              go_wp2
              refine bodyPost_ret (results_tmp4 rfl _ _ _) rfl ?_
              exact ⟨HF.out, HB2.out⟩
            · rw [decide_eq_true q1, decide_eq_false q2] at HF
              go_wp2
              refine bodyPost_ret (results_tmp4 rfl _ _ _) rfl ?_
              exact ⟨HF.out, HB2.out⟩
          · rw [decide_eq_false q1] at HF
            go_wp2
            refine bodyPost_ret (results_tmp4 rfl _ _ _) rfl ?_
            exact ⟨HF.out, HB2.out⟩
        · have b3 : ((n2 : Int) != 2) = true := by rw [bne_iff_ne]; omega
          have HF := HE0.out (by rw [HAt.out]; exact spanR_not2 HPQ.out h3)
          have HF : Hid _ := HF
          clear hpq2 hn2 h3 hB2
          go_wp2
          refine bodyPost_ret (results_tmp4 rfl _ _ _) rfl ?_
          exact ⟨HF.out, HB2.out⟩
      · have b2 : ((n : Int) != 2) = true := by rw [bne_iff_ne]; omega
        have HF := HE0.out (by rw [HAt.out]; exact spanR_not h2)
        have HF : Hid _ := HF
        clear hpq hn h2 hB1
        go_wp2
        refine bodyPost_ret (results_tmp4 rfl _ _ _) rfl ?_
        exact ⟨HF.out, HB1.out⟩
    · have bq : (p6.toList == [98, 121, 116, 101, 115, 32]) = false := by
        rw [beq_eq_false_iff_ne]; intro e; exact hb (by rw [← hp6l, ← ByteArray.toList_eq, e])
      have HF : Hid (SpanE s.data.toList (.returned (.tuple #[.int .i64 0, .int .i64 0, .int .i64 0, .bool false]))) :=
        ⟨0, 0, 0, false, rfl, SpanR.no (span_no hb) 0 0 0⟩
      clear hlen hb hp6l
      go_enter Tryz.func53, Tryz.ntmps53
      go_wp2
      refine bodyPost_ret (results_tmp4 rfl _ _ _) rfl ?_
      exact ⟨HF.out, Below.refl _ _⟩
end Go.Proofs.YtmodongnganbfaaGreatDoor.Rep
/- Replies: the document's named. -/
namespace Go.Proofs.YtmodongnganbfaaGreatDoor.Rep
open Go.RowKit Go.Proofs.YtmodongnganbfaaGreatDoor Go.Proofs.YtmodongnganbfaaGreatDoor.Sha
def lastV (l : List Bytes) : Bytes := l.getLast?.getD []
theorem named_snoc (n : Bytes) (fs : List (Bytes × Bytes)) (f : Bytes × Bytes) : named n (fs ++ [f]) = if f.1 = n then named n fs ++ [f.2] else named n fs := by
  unfold named
  rw [List.filter_append, List.map_append]
  by_cases h : f.1 = n
  · rw [if_pos h]; simp [h]
  · rw [if_neg h]; simp [h]
theorem lastV_snoc (l : List Bytes) (v : Bytes) : lastV (l ++ [v]) = v := by simp [lastV]
def NamedE (n : Bytes) (fs : List (Bytes × Bytes)) (e : Ending) : Prop := e = .returned (.tuple #[.int .i64 ((named n fs).length : Int), .string ⟨(lastV (named n fs)).toArray⟩])
theorem fields_take {fs : List (Bytes × Bytes)} {k : Nat} (h : k < fs.length) : fs.take (k + 1) = fs.take k ++ [fs[k]] := by rw [List.take_succ_eq_append_getElem h]
set_option maxHeartbeats 2000000 in
set_option maxRecDepth 100000 in
theorem named_walk (mb limit : Nat) (m : Mc) (w : World) (nv vv last fr tot : Value) (hR : Row w mb (encM limit nv vv last fr tot m)) (hN : Own w mb nv ((m.fields.map (·.1)).map strL)) (hV : Own w mb vv ((m.fields.map (·.2)).map strL)) (nm : ByteArray) (hfl : m.fields.length ≤ 1000) :
    Calls Tryz.prog 51 #[.pointer (some ⟨mb, 0, none⟩), .string nm] w fun e w' => NamedE nm.data.toList m.fields e ∧ w' = w := by
  have c7 : w.cell? ⟨mb, 7, none⟩ = some nv := hR.cell 7 _ rfl
  have c8 : w.cell? ⟨mb, 8, none⟩ = some vv := hR.cell 8 _ rfl
  obtain ⟨fs, efs⟩ : ∃ fs, m.fields = fs := ⟨_, rfl⟩
  rw [efs] at hN hV hfl ⊢
  clear hR efs
  by_cases h0 : fs = []
  · subst h0
    have e1 : nv = .slice none 0 0 ∨ ∃ ao cap, nv = .slice ao 0 cap := by
      rcases hN with ⟨e, _⟩ | ⟨g, cap, e, _⟩
      · exact .inl e
      · exact .inr ⟨_, cap, e⟩
    obtain ⟨ao, cap, rfl⟩ : ∃ ao cap, nv = .slice ao 0 cap := by
      rcases e1 with e | e
      · exact ⟨none, 0, e⟩
      · exact e
    have HF : Hid (NamedE nm.data.toList [] (.returned (.tuple #[.int .i64 0, .string ⟨#[]⟩]))) := rfl
    clear hN hV e1
    go_enter Tryz.func51, Tryz.ntmps51
    go_wp2
    go_loop [6, 7, 8] (fun n v i => n = .int .i64 0 ∧ v = .string ⟨#[]⟩ ∧ i = .int .i64 0) (fun _ _ _ => 0)
    case atStart => exact ⟨rfl, rfl, rfl⟩
    case round =>
      obtain ⟨rfl, rfl, rfl⟩ := hrel
      go_wp2
      go_ret2
      exact ⟨HF.out, rfl⟩
  · rcases hN with ⟨_, e⟩ | ⟨g, cap, rfl, _, hgl, hgc, hg, _⟩
    · exact absurd (by simpa using e) h0
    rcases hV with ⟨_, e⟩ | ⟨g2, cap2, rfl, _, hgl2, hgc2, hg2, _⟩
    · exact absurd (by simpa using e) h0
    rw [List.length_map, List.length_map] at c7 c8 hgc hgc2
    have HN : Hid (∀ k (hk : k < fs.length), w.cell? ⟨g, k, none⟩ = some (.string ⟨(fs[k]).1.toArray⟩)) := fun k hk => hg k _ (by simp [strL, List.getElem?_eq_getElem hk])
    have HV : Hid (∀ k (hk : k < fs.length), w.cell? ⟨g2, k, none⟩ = some (.string ⟨(fs[k]).2.toArray⟩)) := fun k hk => hg2 k _ (by simp [strL, List.getElem?_eq_getElem hk])
    clear hg hg2 h0
    obtain ⟨T, hTl⟩ : ∃ T, fs.length = T := ⟨_, rfl⟩
    have HTl : Hid (fs.length = T) := hTl
    rw [hTl] at c7 c8 hgc hgc2 hfl
    clear hTl
    go_enter Tryz.func51, Tryz.ntmps51
    go_wp2
    go_loop [6, 7, 8] (fun n v i => ∃ (k N : Nat) (V : Bytes), k ≤ T ∧ N ≤ k ∧ i = .int .i64 k ∧ n = .int .i64 (N : Int) ∧ v = .string ⟨V.toArray⟩ ∧ Hid (N = (named nm.data.toList (fs.take k)).length) ∧ Hid (V = lastV (named nm.data.toList (fs.take k)))) (fun _ _ i => T - (intOf i).toNat)
    case atStart => exact ⟨0, 0, [], Nat.zero_le _, Nat.le_refl _, rfl, rfl, rfl, rfl, rfl⟩
    case round =>
      obtain ⟨k, N, V, hk, hNk, rfl, rfl, rfl, HA, HB⟩ := hrel
      by_cases hlt : k < T
      · have hlt' : (k : Int) < (T : Int) := by omega
        have hkf : k < fs.length := by rw [HTl.out]; exact hlt
        obtain ⟨sK, eK⟩ : ∃ sK : ByteArray, sK = ⟨(fs[k]).1.toArray⟩ := ⟨_, rfl⟩
        have cK : w.cell? ⟨g, k, none⟩ = some (.string sK) := by rw [eK]; exact HN.out k hkf
        have cV : w.cell? ⟨g2, k, none⟩ = some (.string ⟨(fs[k]).2.toArray⟩) := HV.out k hkf
        obtain ⟨U, eU⟩ : ∃ U : Bytes, (fs[k]).2 = U := ⟨_, rfl⟩
        rw [eU] at cV
        have hS := named_snoc nm.data.toList (fs.take k) fs[k]
        rw [← fields_take hkf, eU] at hS
        by_cases hq : (fs[k]).1 = nm.data.toList
        · have bq : (sK.toList == nm.toList) = true := by rw [beq_iff_eq, ByteArray.toList_eq, ByteArray.toList_eq, eK]; exact hq
          rw [if_pos hq] at hS
          have HA' : Hid (N + 1 = (named nm.data.toList (fs.take (k + 1))).length) := by show _ = _; rw [hS, List.length_append, ← HA.out]; rfl
          have HB' : Hid (U = lastV (named nm.data.toList (fs.take (k + 1)))) := by show _ = _; rw [hS, lastV_snoc]
          clear hS hq eK eU hkf
          go_wp2
          go_round
          case rel => exact ⟨k + 1, N + 1, U, by omega, by omega, by go_num, by go_num, rfl, HA', HB'⟩
          case measure => simp [intOf]; omega
        · have bq : (sK.toList == nm.toList) = false := by rw [beq_eq_false_iff_ne, ByteArray.toList_eq, ByteArray.toList_eq, eK]; exact hq
          rw [if_neg hq] at hS
          have HA' : Hid (N = (named nm.data.toList (fs.take (k + 1))).length) := by show _ = _; rw [hS, ← HA.out]
          have HB' : Hid (V = lastV (named nm.data.toList (fs.take (k + 1)))) := by show _ = _; rw [hS, ← HB.out]
          clear hS hq eK eU hkf
          go_wp2
          go_round
          case rel => exact ⟨k + 1, N, V, by omega, by omega, by go_num, rfl, rfl, HA', HB'⟩
          case measure => simp [intOf]; omega
      · have hlt' : ¬ (k : Int) < (T : Int) := by omega
        have HF : Hid (NamedE nm.data.toList fs (.returned (.tuple #[.int .i64 (N : Int), .string ⟨V.toArray⟩]))) := by
          have e : fs.take k = fs := List.take_of_length_le (by rw [HTl.out]; omega)
          show _ = _
          rw [HA.out, HB.out, e]
        go_wp2
        go_ret2
        exact ⟨HF.out, rfl⟩
end Go.Proofs.YtmodongnganbfaaGreatDoor.Rep
/- Replies: what a head tells, by how many fields of each kind there are. -/
namespace Go.Proofs.YtmodongnganbfaaGreatDoor.Rep
open Go.RowKit Go.Proofs.YtmodongnganbfaaGreatDoor Go.Proofs.YtmodongnganbfaaGreatDoor.Sha
theorem one_eq {α : Type} (f : Bytes → Option α) (l : List Bytes) : one f l = if l.length = 0 then some none else if l.length = 1 then (f (lastV l)).map some else none := by
  match l with
  | [] => rfl
  | [v] => rfl
  | v :: u :: l => simp [one]
/-- Is a head wrong? In the document's order. -/
def wrongB (limit st n k g h : Nat) (L C R : Bytes) : Bool :=
  decide (1 < n) || decide (1 < k) || decide (1 < g) || decide (1 < h) || (n == 1 && k == 1) || (n == 1 && (few L).isNone) || (k == 1 && decide (smaller C ≠ Rep.chunked)) || (h == 1 && (span R).isNone) || (st == 206 && h == 0) || (hasBody st && (n == 1 && decide (limit < (few L).getD 0))) || (hasBody st && (h == 1 && decide (limit < ((span R).map (·.total)).getD 0)))
def headM (m : Mc) (h : Nat) (G R : Bytes) : Mc := { m with headed := true, tag := G, span := if h = 1 then span R else none }
def headP (limit : Nat) (m : Mc) (n k g h : Nat) (L C G R : Bytes) : Option Mc :=
  if wrongB limit m.status n k g h L C R then none
  else if !hasBody m.status then some { headM m h G R with at' := 14 }
  else if k = 1 then some { headM m h G R with at' := 8, used := 0, start := 0, size := 0 }
  else if n = 1 then (if few L = some 0 then done (headM m h G R) else some { headM m h G R with at' := 12, size := (few L).getD 0 })
  else some { headM m h G R with at' := 13 }
theorem lastV_nil {l : List Bytes} (h : l.length = 0) : lastV l = [] := by rw [List.eq_nil_of_length_eq_zero h]; rfl
/-- What follows a head that is read. -/
def headQ (limit : Nat) (m : Mc) (o : Option Head) : Option Mc := match o with
  | none => none
  | some h =>
    if fits m.status limit h then
      if !hasBody m.status then some { m with headed := true, tag := h.tag, span := h.span, at' := 14 }
      else if h.chunked then some { m with headed := true, tag := h.tag, span := h.span, at' := 8, used := 0, start := 0, size := 0 }
      else match h.length with
        | some 0 => done { m with headed := true, tag := h.tag, span := h.span }
        | some n => some { m with headed := true, tag := h.tag, span := h.span, at' := 12, size := n }
        | none => some { m with headed := true, tag := h.tag, span := h.span, at' := 13 }
    else none
theorem headed_Q (limit : Nat) (m : Mc) : headed limit m = headQ limit m (headOf m.fields) := rfl
def headO (a : Option (Option Nat)) (b : Option (Option Unit)) (c : Option (Option Bytes)) (d : Option (Option Span)) : Option Head := match a, b, c, d with
  | some n, some k, some g, some h => some ⟨n, k.isSome, g.getD [], h⟩
  | _, _, _, _ => none
theorem headO_none (a : Option (Option Nat)) (b : Option (Option Unit)) (c : Option (Option Bytes)) (d : Option (Option Span)) (h : a = none ∨ b = none ∨ c = none ∨ d = none) : headO a b c d = none := by
  unfold headO
  split
  · simp at h
  · rfl
def cod (v : Bytes) : Option Unit := if smaller v = Rep.chunked then some () else none
theorem headOf_O (fs : List (Bytes × Bytes)) : headOf fs = headO (one few (named nLength fs)) (one cod (named nCoding fs)) (one some (named nTag fs)) (one Rep.span (named nRange fs)) := rfl
def oneN {α : Type} (f : Bytes → Option α) (n : Nat) (v : Bytes) : Option (Option α) := if n = 0 then some none else if n = 1 then (f v).map some else none
theorem oneN_0 {α : Type} (f : Bytes → Option α) (v : Bytes) : oneN f 0 v = some none := rfl
theorem oneN_1 {α : Type} (f : Bytes → Option α) (v : Bytes) : oneN f 1 v = (f v).map some := rfl
theorem oneN_2 {α : Type} (f : Bytes → Option α) {n : Nat} (v : Bytes) (h : 1 < n) : oneN f n v = none := by unfold oneN; rw [if_neg (by omega), if_neg (by omega)]
set_option maxHeartbeats 4000000 in
theorem headQ_P (limit : Nat) (m : Mc) (n k g h : Nat) (L C G R : Bytes) (hg : g = 0 → G = []) : headQ limit m (headO (oneN few n L) (oneN cod k C) (oneN some g G) (oneN Rep.span h R)) = headP limit m n k g h L C G R := by
  have wrong : ∀ o, o = none → wrongB limit m.status n k g h L C R = true → headQ limit m o = headP limit m n k g h L C G R := by
    intro o ho hw
    rw [ho]
    unfold headP
    rw [if_pos hw]
    rfl
  by_cases n2 : 1 < n
  · exact wrong _ (headO_none _ _ _ _ (.inl (oneN_2 few L n2))) (by simp [wrongB, n2])
  by_cases k2 : 1 < k
  · exact wrong _ (headO_none _ _ _ _ (.inr (.inl (oneN_2 cod C k2)))) (by simp [wrongB, k2])
  by_cases g2 : 1 < g
  · exact wrong _ (headO_none _ _ _ _ (.inr (.inr (.inl (oneN_2 some G g2))))) (by simp [wrongB, g2])
  by_cases h2 : 1 < h
  · exact wrong _ (headO_none _ _ _ _ (.inr (.inr (.inr (oneN_2 Rep.span R h2))))) (by simp [wrongB, h2])
  have en : n = 0 ∨ n = 1 := by omega
  have ek : k = 0 ∨ k = 1 := by omega
  have eg : g = 0 ∨ g = 1 := by omega
  have eh : h = 0 ∨ h = 1 := by omega
  have tagO : ∃ o : Option Bytes, oneN some g G = some o ∧ o.getD [] = G := by
    rcases eg with e | e
    · subst e; exact ⟨none, rfl, (hg rfl).symm⟩
    · subst e; exact ⟨some G, rfl, rfl⟩
  obtain ⟨o, ho, hoG⟩ := tagO
  rw [ho]
  have hgl : ¬ 1 < g := g2
  clear wrong ho eg
  subst hoG
  have hgd : decide (1 < g) = false := decide_eq_false hgl
  have h6 : m.status = 206 → hasBody m.status = true := fun e => by rw [e]; rfl
  have h6' : (m.status == 206) = true → hasBody m.status = true := fun e => h6 (by simpa using e)
  unfold headP wrongB headM
  rw [hgd]
  clear hgd hgl g2 hg n2 k2 h2
  generalize hb : hasBody m.status = bd at *
  generalize h6b : (m.status == 206) = b6 at *
  unfold headQ fits
  rw [hb, h6b]
  clear h6 hb
  rcases en with rfl | rfl <;> rcases ek with rfl | rfl <;> rcases eh with rfl | rfl <;> simp only [oneN_0, oneN_1]
  · cases bd <;> cases b6 <;> simp [headO] at h6' ⊢
    all_goals (split <;> split <;> first | rfl | omega | (simp_all; done) | (simp_all; omega))
  · cases bd <;> cases b6 <;> cases hR : span R <;> simp [headO] at h6' ⊢
    all_goals (split <;> split <;> first | rfl | omega | (simp_all; done) | (simp_all; omega))
  · cases bd <;> cases b6 <;> by_cases hC : smaller C = Rep.chunked <;> simp [headO, cod, hC] at h6' ⊢
    all_goals (split <;> split <;> first | rfl | omega | (simp_all; done) | (simp_all; omega))
  · cases bd <;> cases b6 <;> by_cases hC : smaller C = Rep.chunked <;> cases hR : span R <;> simp [headO, cod, hC] at h6' ⊢
    all_goals (split <;> split <;> first | rfl | omega | (simp_all; done) | (simp_all; omega))
  · cases bd <;> cases b6 <;> rcases hL : few L with _ | _ | v <;> simp [headO] at h6' ⊢
    all_goals (split <;> split <;> first | rfl | omega | (simp_all; done) | (simp_all; omega))
  · cases bd <;> cases b6 <;> rcases hL : few L with _ | _ | v <;> cases hR : span R <;> simp [headO] at h6' ⊢
    all_goals (split <;> split <;> first | rfl | omega | (simp_all; done) | (simp_all; omega))
  · cases bd <;> cases b6 <;> rcases hL : few L with _ | _ | v <;> by_cases hC : smaller C = Rep.chunked <;> simp [headO, cod, hC] at h6' ⊢
    all_goals (split <;> split <;> first | rfl | omega | (simp_all; done) | (simp_all; omega))
  · cases bd <;> cases b6 <;> rcases hL : few L with _ | _ | v <;> by_cases hC : smaller C = Rep.chunked <;> cases hR : span R <;> simp [headO, cod, hC] at h6' ⊢
    all_goals (split <;> split <;> first | rfl | omega | (simp_all; done) | (simp_all; omega))
theorem headed_P (limit : Nat) (m : Mc) : headed limit m = headP limit m (named nLength m.fields).length (named nCoding m.fields).length (named nTag m.fields).length (named nRange m.fields).length (lastV (named nLength m.fields)) (lastV (named nCoding m.fields)) (lastV (named nTag m.fields)) (lastV (named nRange m.fields)) := by
  rw [headed_Q, headOf_O, one_eq, one_eq, one_eq, one_eq]
  exact headQ_P limit m _ _ _ _ _ _ _ _ lastV_nil
end Go.Proofs.YtmodongnganbfaaGreatDoor.Rep
