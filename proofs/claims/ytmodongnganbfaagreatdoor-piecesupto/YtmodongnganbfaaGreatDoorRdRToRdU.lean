/- Replies: the document's lineEnd and Feed. -/
import Derived.Test.YtmodongnganbfaaGreatDoorRdQ
import Derived.Test.YtmodongnganbfaaGreatDoorRdF
namespace Go.Proofs.YtmodongnganbfaaGreatDoor.Rep
open Go.RowKit Go.Proofs.YtmodongnganbfaaGreatDoor Go.Proofs.YtmodongnganbfaaGreatDoor.Sha
/-- No value is longer than a head may be. -/
def Vals (m : Mc) : Prop := ∀ f ∈ m.fields, f.2.length ≤ 400
theorem only_below {mb : Nat} {w w' : World} (h : Only (· = mb) w w') (hl : mb < w.heap.size) : Below mb w w' := below_of_only h (fun k hk => by rw [hk]; exact Nat.le_refl _) (Nat.le_of_lt hl)
theorem DM.lt {mb limit : Nat} {m : Mc} {w : World} (h : DM mb limit m w) : mb < w.heap.size := by
  obtain ⟨nv, vv, last, fr, tot, hR, _⟩ := h.ex
  exact hR.lt (by simp [encM])
set_option maxHeartbeats 2000000 in
set_option maxRecDepth 100000 in
theorem lineEnd_walk (mb limit : Nat) (m : Mc) (w : World) (h : DM mb limit m w) (g : Good limit m) (hv : Vals m) (h4 : m.at' = 4) :
    Calls Tryz.prog 21 #[.pointer (some ⟨mb, 0, none⟩)] w fun e w' => e = .returned (.tuple #[]) ∧ Stepped mb limit (lineEnd limit m) w' ∧ Only (· = mb) w w' := by
  obtain ⟨nv, vv, last, fr, tot, hR, hN, hV, n1, n2, n3, hP⟩ := h.ex
  have c0 : w.cell? ⟨mb, 0, none⟩ = some (.int .i64 (m.at' : Int)) := hR.cell 0 _ rfl
  have c1 : w.cell? ⟨mb, 1, none⟩ = some (.int .i64 (m.thn : Int)) := hR.cell 1 _ rfl
  have c4 : w.cell? ⟨mb, 4, none⟩ = some (.int .i64 (m.start : Int)) := hR.cell 4 _ rfl
  have c10 : w.cell? ⟨mb, 10, none⟩ = some (.bool m.tail) := hR.cell 10 _ rfl
  have c11 : w.cell? ⟨mb, 11, none⟩ = some (.int .i64 (m.size : Int)) := hR.cell 11 _ rfl
  have f0 := hR.fro 0
  have f4 := hR.fro 4
  have f11 := hR.fro 11
  have ht := g.t h4
  rcases ht with et | et | et | et
  · have e : lineEnd limit m = some { m with at' := 5 } := by unfold lineEnd; rw [if_pos et]
    rw [e]
    have c1' : w.cell? ⟨mb, 1, none⟩ = some (.int .i64 5) := by rw [c1, et]; rfl
    have HK : Hid (Only (· = mb) w (w.setCell ⟨mb, 0, none⟩ (.int .i64 5))) := Only.set (S := (· = mb)) w 0 _ rfl
    have HF : Hid (Stepped mb limit (some { m with at' := 5 }) (w.setCell ⟨mb, 0, none⟩ (.int .i64 5))) := DM.mk' (m := m) (nv := nv) (vv := vv) (last := last) (fr := fr) (tot := tot) ((hR.set 0 (.int .i64 5) (by simp [encM])).cast rfl) rfl hN hV n1 n2 n3 (Only.set (S := (· = mb)) w 0 _ rfl) (part_keep hP rfl rfl rfl)
    clear hR hN hV hP n3 h g hv h4 et e c1
    go_enter Tryz.func21, Tryz.ntmps21
    go_wp2
    first | go_end0 | refine bodyPost_ret (results_none rfl _ _ _) rfl ?_
    exact ⟨rfl, HF.out, HK.out⟩
  · have e : lineEnd limit m = some { m with at' := 8, start := 0, size := 0 } := by unfold lineEnd; rw [if_neg (by omega), if_pos et]
    rw [e]
    have c1' : w.cell? ⟨mb, 1, none⟩ = some (.int .i64 8) := by rw [c1, et]; rfl
    have HK : Hid (Only (· = mb) w (((w.setCell ⟨mb, 0, none⟩ (.int .i64 8)).setCell ⟨mb, 4, none⟩ (.int .i64 0)).setCell ⟨mb, 11, none⟩ (.int .i64 0))) := ((Only.set (S := (· = mb)) w 0 _ rfl).trans (Only.set (S := (· = mb)) _ 4 _ rfl)).trans (Only.set (S := (· = mb)) _ 11 _ rfl)
    have HF : Hid (Stepped mb limit (some { m with at' := 8, start := 0, size := 0 }) (((w.setCell ⟨mb, 0, none⟩ (.int .i64 8)).setCell ⟨mb, 4, none⟩ (.int .i64 0)).setCell ⟨mb, 11, none⟩ (.int .i64 0))) := DM.mk' (m := m) (nv := nv) (vv := vv) (last := last) (fr := fr) (tot := tot) ((((hR.set 0 (.int .i64 8) (by simp [encM])).set 4 (.int .i64 0) (by simp [encM])).set 11 (.int .i64 0) (by simp [encM])).cast rfl) rfl hN hV n1 n2 n3 (((Only.set (S := (· = mb)) w 0 _ rfl).trans (Only.set (S := (· = mb)) _ 4 _ rfl)).trans (Only.set (S := (· = mb)) _ 11 _ rfl)) (part_keep hP rfl rfl rfl)
    clear hR hN hV hP n3 h g hv h4 et e c1
    go_enter Tryz.func21, Tryz.ntmps21
    go_wp2
    first | go_end0 | refine bodyPost_ret (results_none rfl _ _ _) rfl ?_
    exact ⟨rfl, HF.out, HK.out⟩
  · have e : lineEnd limit m = sized limit m := by unfold lineEnd; rw [if_neg (by omega), if_neg (by omega), if_pos et]
    rw [e]
    have c1' : w.cell? ⟨mb, 1, none⟩ = some (.int .i64 10) := by rw [c1, et]; rfl
    have HS := sized_walk mb limit m w h (by have := g.al; have := g.lim; omega) (by have := g.zl; omega)
    clear hR hN hV hP n3 h g hv h4 et e c1
    go_enter Tryz.func21, Tryz.ntmps21
    go_wp2_with fail
    refine HS.mono ?_
    rintro e w' ⟨rfl, hS, hO⟩
    have HF : Hid (Stepped mb limit (sized limit m) w') := hS
    have HK : Hid (Only (· = mb) w w') := hO
    clear hS hO
    go_wp2
    first | go_end0 | refine bodyPost_ret (results_none rfl _ _ _) rfl ?_
    exact ⟨rfl, HF.out, HK.out⟩
  · have c1' : w.cell? ⟨mb, 1, none⟩ = some (.int .i64 14) := by rw [c1, et]; rfl
    cases htl : m.tail with
    | true =>
      have e : lineEnd limit m = done m := by unfold lineEnd; rw [if_neg (by omega), if_neg (by omega), if_neg (by omega), if_pos et, if_pos htl]
      rw [e]
      rw [htl] at c10
      have HS := done_walk mb limit m w h (by rw [g.h4 ⟨h4, .inr et⟩]; exact htl) (by have := g.bl; have := g.lim; omega)
      clear hR hN hV hP n3 h g hv h4 et e c1 htl
      go_enter Tryz.func21, Tryz.ntmps21
      go_wp2_with fail
      refine HS.mono ?_
      rintro e w' ⟨rfl, hS, hO⟩
      have HF : Hid (Stepped mb limit (done m) w') := hS
      have HK : Hid (Only (· = mb) w w') := hO
      clear hS hO
      go_wp2
      first | go_end0 | refine bodyPost_ret (results_none rfl _ _ _) rfl ?_
      exact ⟨rfl, HF.out, HK.out⟩
    | false =>
      have e : lineEnd limit m = headed limit m := by unfold lineEnd; rw [if_neg (by omega), if_neg (by omega), if_neg (by omega), if_pos et, if_neg (by rw [htl]; decide)]
      rw [e]
      rw [htl] at c10
      have HS := headed_walk mb limit m w h (by rw [g.h4 ⟨h4, .inr et⟩]; exact htl) g.fl hv (by have := g.bl; have := g.lim; omega)
      clear hR hN hV hP n3 h g hv h4 et e c1 htl
      go_enter Tryz.func21, Tryz.ntmps21
      go_wp2_with fail
      refine HS.mono ?_
      rintro e w' ⟨rfl, hS, hO⟩
      have HF : Hid (Stepped mb limit (headed limit m) w') := hS
      have HK : Hid (Only (· = mb) w w') := hO
      clear hS hO
      go_wp2
      first | go_end0 | refine bodyPost_ret (results_none rfl _ _ _) rfl ?_
      exact ⟨rfl, HF.out, HK.out⟩
end Go.Proofs.YtmodongnganbfaaGreatDoor.Rep
/- Replies: the document's Feed. -/
namespace Go.Proofs.YtmodongnganbfaaGreatDoor.Rep
open Go.RowKit Go.Proofs.YtmodongnganbfaaGreatDoor Go.Proofs.YtmodongnganbfaaGreatDoor.Sha
theorem dropWhile_le (p : UInt8 → Bool) : ∀ l : Bytes, (l.dropWhile p).length ≤ l.length
  | [] => Nat.le_refl _
  | c :: l => by
    rw [List.dropWhile_cons]
    split
    · exact Nat.le_succ_of_le (dropWhile_le p l)
    · exact Nat.le_refl _
theorem trimmed_le (l : Bytes) : (trimmed l).length ≤ l.length := by
  unfold trimmed
  rw [List.length_reverse]
  refine Nat.le_trans (dropWhile_le _ _) ?_
  rw [List.length_reverse]
  exact dropWhile_le _ _
theorem done_fields {m m' : Mc} (h : done m = some m') : m'.fields = m.fields := by
  unfold done at h
  split at h
  · cases h
  · injection h with h; subst h; rfl
theorem headed_fields {limit : Nat} {m m' : Mc} (h : headed limit m = some m') : m'.fields = m.fields := by
  unfold headed at h
  split at h
  · cases h
  · split at h
    · simp only [] at h
      split at h
      · injection h with h; subst h; rfl
      · split at h
        · injection h with h; subst h; rfl
        · split at h
          · exact (done_fields h).trans rfl
          · injection h with h; subst h; rfl
          · injection h with h; subst h; rfl
    · cases h
theorem sized_fields {limit : Nat} {m m' : Mc} (h : sized limit m = some m') : m'.fields = m.fields := by
  unfold sized at h
  split at h
  · cases h
  · split at h
    · injection h with h; subst h; rfl
    · injection h with h; subst h; rfl
theorem lineEnd_fields {limit : Nat} {m m' : Mc} (h : lineEnd limit m = some m') : m'.fields = m.fields := by
  unfold lineEnd at h
  split at h
  · injection h with h; subst h; rfl
  · split at h
    · injection h with h; subst h; rfl
    · split at h
      · exact sized_fields h
      · split at h
        · split at h
          · exact done_fields h
          · exact headed_fields h
        · injection h with h; subst h; rfl
theorem first_fields {m m' : Mc} {c : UInt8} (h : first m c = some m') : m'.fields = m.fields := by
  unfold first at h
  split at h
  · split at h
    · injection h with h
      split at h
      · subst h; rfl
      · subst h; rfl
    · cases h
  · split at h
    · split at h
      · injection h with h
        split at h
        · subst h; rfl
        · subst h; rfl
      · cases h
    · split at h
      · injection h with h; subst h; rfl
      · cases h
theorem sizeByte_fields {m m' : Mc} {c : UInt8} (h : sizeByte m c = some m') : m'.fields = m.fields := by
  unfold sizeByte at h
  split at h
  · injection h with h; subst h; rfl
  · split at h
    · injection h with h; subst h; rfl
    · split at h
      · injection h with h; subst h; rfl
      · cases h
theorem inBody_fields {limit : Nat} {m m' : Mc} {c : UInt8} (h : inBody limit m c = some m') : m'.fields = m.fields := by
  unfold inBody at h
  split at h
  · injection h with h
    split at h
    · subst h; rfl
    · subst h; rfl
  · split at h
    · split at h
      · injection h with h; subst h; rfl
      · cases h
    · split at h
      · split at h
        · exact (done_fields h).trans rfl
        · injection h with h; subst h; rfl
      · split at h
        · split at h
          · cases h
          · injection h with h; subst h; rfl
        · injection h with h; subst h; rfl
theorem line_vals {m m' : Mc} {c : UInt8} (hv : Vals m) (hl : m.value.length ≤ 400) (h : line m c = some m') : Vals m' := by
  have same : m'.fields = m.fields → Vals m' := fun e f hf => hv f (by rw [← e]; exact hf)
  unfold line at h
  split at h
  · injection h with h; subst h; exact same rfl
  · split at h
    · injection h with h; subst h; exact same rfl
    · split at h
      · injection h with h; subst h; exact same rfl
      · split at h
        · injection h with h; subst h; exact same rfl
        · split at h
          · injection h with h
            split at h
            · subst h; exact same rfl
            · subst h
              intro f hf
              simp only [List.mem_append, List.mem_singleton] at hf
              rcases hf with hf | hf
              · exact hv f hf
              · rw [hf]
                exact Nat.le_trans (trimmed_le _) hl
          · split at h
            · injection h with h; subst h; exact same rfl
            · split at h
              · injection h with h; subst h; exact same rfl
              · split at h
                · injection h with h; subst h; exact same rfl
                · split at h
                  · injection h with h; subst h; exact same rfl
                  · cases h
theorem feed_vals {limit : Nat} {m m' : Mc} {c : UInt8} (g : Good limit m) (hv : Vals m) (h : feed limit m c = some m') : Vals m' := by
  unfold feed at h
  split at h
  · cases h
  · simp only [] at h
    obtain ⟨m1, e1⟩ : ∃ m1, (if counts m = true then { m with used := m.used + 1 } else m) = m1 := ⟨_, rfl⟩
    rw [e1] at h
    have hf : m1.fields = m.fields := by rw [← e1]; split <;> rfl
    have hvl : m1.value = m.value := by rw [← e1]; split <;> rfl
    have hv1 : Vals m1 := fun f q => hv f (by rw [← hf]; exact q)
    have same : m'.fields = m1.fields → Vals m' := fun e f q => hv1 f (by rw [← e]; exact q)
    split at h
    · exact same (first_fields h)
    · split at h
      · split at h
        · exact same (lineEnd_fields h)
        · cases h
      · split at h
        · exact same (sizeByte_fields h)
        · split at h
          · exact line_vals hv1 (by rw [hvl]; exact g.vl) h
          · exact same (inBody_fields h)
theorem feed_used {limit : Nat} {m : Mc} {c : UInt8} (hc : counts m = true) (hu : m.used < 400) : feed limit m c = (if m.at' ≤ 2 then first { m with used := m.used + 1 } c else if m.at' = 4 then (if c = 10 then lineEnd limit { m with used := m.used + 1 } else none) else if m.at' = 8 then sizeByte { m with used := m.used + 1 } c else if m.at' ≤ 9 then line { m with used := m.used + 1 } c else inBody limit { m with used := m.used + 1 } c) := by
  unfold feed
  rw [if_neg (by omega)]
  simp only [hc, if_true]
theorem feed_free {limit : Nat} {m : Mc} {c : UInt8} (hc : counts m = false) : feed limit m c = (if m.at' ≤ 2 then first m c else if m.at' = 4 then (if c = 10 then lineEnd limit m else none) else if m.at' = 8 then sizeByte m c else if m.at' ≤ 9 then line m c else inBody limit m c) := by
  unfold feed
  rw [if_neg (by rw [hc]; intro q; cases q.1)]
  simp only [hc, Bool.false_eq_true, if_false]
end Go.Proofs.YtmodongnganbfaaGreatDoor.Rep
/- Replies: the document's Feed: one byte more. -/
namespace Go.Proofs.YtmodongnganbfaaGreatDoor.Rep
open Go.RowKit Go.Proofs.YtmodongnganbfaaGreatDoor Go.Proofs.YtmodongnganbfaaGreatDoor.Sha
theorem used_vals {m : Mc} (h : Vals m) : Vals { m with used := m.used + 1 } := h
set_option maxHeartbeats 4000000 in
set_option maxRecDepth 100000 in
theorem feed_walk (mb limit : Nat) (m : Mc) (c : UInt8) (w : World) (h : DM mb limit m w) (g : Good limit m) (hv : Vals m) (h14 : m.at' ≤ 13) :
    Calls Tryz.prog 13 #[.pointer (some ⟨mb, 0, none⟩), .int .u8 c.toNat] w fun e w' => e = .returned (.tuple #[]) ∧ Stepped mb limit (feed limit m c) w' ∧ Frm mb w w' := by
  have hl := h.lt
  have htl := g.tl
  have HC := counts_walk mb limit m w h (by omega) (by omega)
  have h' := h
  obtain ⟨nv, vv, last, fr, tot, hR, hN, hV, n1, n2, n3, hP⟩ := h'
  have c0 : w.cell? ⟨mb, 0, none⟩ = some (.int .i64 (m.at' : Int)) := hR.cell 0 _ rfl
  have c3 : w.cell? ⟨mb, 3, none⟩ = some (.int .i64 (m.used : Int)) := hR.cell 3 _ rfl
  have f0 := hR.fro 0
  have f3 := hR.fro 3
  have hu := g.u
  cases hc : counts m with
  | true =>
    rw [hc] at HC
    have h9 : m.at' ≤ 9 := by unfold counts at hc; simp at hc; exact hc.1
    by_cases h400 : 400 ≤ m.used
    · have e : feed limit m c = none := by unfold feed; rw [if_pos ⟨hc, h400⟩]
      rw [e]
      have g4 : (400 : Int) ≤ (m.used : Int) := by omega
      have HK : Hid (Frm mb w (w.setCell ⟨mb, 0, none⟩ (.int .i64 15))) := Frm.of_only (Only.set (S := (· = mb)) w 0 _ rfl) hl
      have HF : Hid (Stepped mb limit none (w.setCell ⟨mb, 0, none⟩ (.int .i64 15))) := Stepped.broke hR (part_ints hP)
      clear hR hN hV hP n3 h g hv hc e h400 htl
      go_enter Tryz.func13, Tryz.ntmps13
      go_wp2_with fail
      refine HC.mono ?_
      rintro e w' ⟨rfl, rfl⟩
      go_wp2
      first | go_end0 | refine bodyPost_ret (results_none rfl _ _ _) rfl ?_
      exact ⟨rfl, HF.out, HK.out⟩
    · have g4 : ¬ (400 : Int) ≤ (m.used : Int) := by omega
      have hlt : m.used < 400 := by omega
      obtain ⟨w1, HW1⟩ : ∃ w1, Hid (w.setCell ⟨mb, 3, none⟩ (.int .i64 ((m.used : Int) + 1)) = w1) := ⟨_, rfl⟩
      have hD1 : DM mb limit { m with used := m.used + 1 } w1 := by
        rw [← HW1.out]
        exact DM.mk' (m := m) (nv := nv) (vv := vv) (last := last) (fr := fr) (tot := tot) ((hR.set 3 (.int .i64 ((m.used : Int) + 1)) (by simp [encM])).cast rfl) rfl hN hV n1 n2 n3 (Only.set (S := (· = mb)) w 3 _ rfl) (part_keep hP rfl rfl rfl)
      have hR1 : Row w1 mb (encM limit nv vv last fr tot { m with used := m.used + 1 }) := by rw [← HW1.out]; exact (hR.set 3 (.int .i64 ((m.used : Int) + 1)) (by simp [encM])).cast rfl
      have hB1 : Frm mb w w1 := by rw [← HW1.out]; exact Frm.of_only (Only.set (S := (· = mb)) w 3 _ rfl) hl
      have d0 : w1.cell? ⟨mb, 0, none⟩ = some (.int .i64 (m.at' : Int)) := by
        rw [← HW1.out, World.cell?_setCell_other _ _ _ _ (by simp)]; exact c0
      have k0 : w1.frozen? ⟨mb, 0, none⟩ = false := by rw [← HW1.out, World.frozen?_setCell]; exact f0
      have hg1 := used_good g hlt
      have hv1 := used_vals hv
      have hl1 : mb < w1.heap.size := hD1.lt
      have HE := feed_used (limit := limit) (c := c) hc hlt
      rw [HE]
      clear HE
      have HB1 : Hid (Frm mb w w1) := hB1
      by_cases h2 : m.at' ≤ 2
      · have t2 : (m.at' : Int) ≤ 2 := by omega
        rw [if_pos h2]
        have HS := first_walk mb limit { m with used := m.used + 1 } c w1 hD1 (g.h3 (by omega)).1 h2 (fun e => (g.s0 e).1) (fun e => (g.s1 e).1) (by have := g.st; show m.status ≤ 1000; omega)
        clear hR hN hV hP n3 h g hv hc htl hg1 hv1 hD1 hR1 h2
        go_enter Tryz.func13, Tryz.ntmps13
        go_wp2_with fail
        refine HC.mono ?_
        rintro e w' ⟨rfl, rfl⟩
        go_wp2_with fail
        rw [HW1.out]
        refine HS.mono ?_
        rintro e w2 ⟨rfl, hS, hO⟩
        have HF : Hid (Stepped mb limit _ w2) := hS
        have HK : Hid (Frm mb w' w2) := HB1.out.trans (Frm.of_only hO hl1)
        clear hS hO
        go_wp2
        first | go_end0 | refine bodyPost_ret (results_none rfl _ _ _) rfl ?_
        exact ⟨rfl, HF.out, HK.out⟩
      · have t2 : ¬ (m.at' : Int) ≤ 2 := by omega
        rw [if_neg h2]
        by_cases h4 : m.at' = 4
        · rw [if_pos h4]
          have c0' : w.cell? ⟨mb, 0, none⟩ = some (.int .i64 4) := by rw [c0, h4]; rfl
          have d0' : w1.cell? ⟨mb, 0, none⟩ = some (.int .i64 4) := by rw [d0, h4]; rfl
          clear c0 d0 t2
          by_cases h10 : c = 10
          · have b10 : ((c.toNat : Int) != 10) = false := by rw [h10]; rfl
            rw [if_pos h10]
            have HS := lineEnd_walk mb limit { m with used := m.used + 1 } w1 hD1 hg1 hv1 h4
            clear hR hN hV hP n3 h g hv hc htl hg1 hv1 hD1 hR1 h10 h4 h2
            go_enter Tryz.func13, Tryz.ntmps13
            go_wp2_with fail
            refine HC.mono ?_
            rintro e w' ⟨rfl, rfl⟩
            go_wp2_with fail
            rw [HW1.out]
            refine HS.mono ?_
            rintro e w2 ⟨rfl, hS, hO⟩
            have HF : Hid (Stepped mb limit _ w2) := hS
            have HK : Hid (Frm mb w' w2) := HB1.out.trans (Frm.of_only hO hl1)
            clear hS hO
            go_wp2
            first | go_end0 | refine bodyPost_ret (results_none rfl _ _ _) rfl ?_
            exact ⟨rfl, HF.out, HK.out⟩
          · have b10 : ((c.toNat : Int) != 10) = true := by rw [bne_iff_ne]; intro e; exact h10 (UInt8.toNat_inj.1 (by have : (10 : UInt8).toNat = 10 := rfl; omega))
            rw [if_neg h10]
            have HK : Hid (Frm mb w (w1.setCell ⟨mb, 0, none⟩ (.int .i64 15))) := hB1.trans (Frm.of_only (Only.set (S := (· = mb)) w1 0 _ rfl) hl1)
            have HF : Hid (Stepped mb limit none (w1.setCell ⟨mb, 0, none⟩ (.int .i64 15))) := Stepped.broke hR1 (part_ints hP)
            rw [← HW1.out] at HK HF
            clear hR hN hV hP n3 h g hv hc htl hg1 hv1 hD1 hR1 h10 h4 h2
            go_enter Tryz.func13, Tryz.ntmps13
            go_wp2_with fail
            refine HC.mono ?_
            rintro e w' ⟨rfl, rfl⟩
            go_wp2
            first | go_end0 | refine bodyPost_ret (results_none rfl _ _ _) rfl ?_
            exact ⟨rfl, HF.out, HK.out⟩
        · rw [if_neg h4]
          have t4 : ((m.at' : Int) == 4) = false := by rw [beq_eq_false_iff_ne]; omega
          by_cases h8 : m.at' = 8
          · have c0' : w.cell? ⟨mb, 0, none⟩ = some (.int .i64 8) := by rw [c0, h8]; rfl
            clear c0 t2 t4
            rw [if_pos h8]
            have HS := size_walk mb limit { m with used := m.used + 1 } c w1 hD1 (by have := g.zl; show m.size ≤ _; omega) (by have := (g.z8 h8).1; show m.start ≤ _; omega)
            clear hR hN hV hP n3 h g hv hc htl hg1 hv1 hD1 hR1 h8 h4 h2 d0
            go_enter Tryz.func13, Tryz.ntmps13
            go_wp2_with fail
            refine HC.mono ?_
            rintro e w' ⟨rfl, rfl⟩
            go_wp2_with fail
            rw [HW1.out]
            refine HS.mono ?_
            rintro e w2 ⟨rfl, hS, hO⟩
            have HF : Hid (Stepped mb limit _ w2) := hS
            have HK : Hid (Frm mb w' w2) := HB1.out.trans (Frm.of_only hO hl1)
            clear hS hO
            go_wp2
            first | go_end0 | refine bodyPost_ret (results_none rfl _ _ _) rfl ?_
            exact ⟨rfl, HF.out, HK.out⟩
          · rw [if_neg h8]
            have t8 : ((m.at' : Int) == 8) = false := by rw [beq_eq_false_iff_ne]; omega
            have t9 : (m.at' : Int) ≤ 9 := by omega
            rw [if_pos h9]
            have HS := line_walk mb limit { m with used := m.used + 1 } c w1 hD1 hg1 (by show m.at' = 3 ∨ m.at' = 5 ∨ m.at' = 6 ∨ m.at' = 7 ∨ m.at' = 9; omega)
            clear hR hN hV hP n3 h g hv hc htl hg1 hv1 hD1 hR1 h8 h4 h2
            go_enter Tryz.func13, Tryz.ntmps13
            go_wp2_with fail
            refine HC.mono ?_
            rintro e w' ⟨rfl, rfl⟩
            go_wp2_with fail
            rw [HW1.out]
            refine HS.mono ?_
            rintro e w2 ⟨rfl, hS, hO⟩
            have HF : Hid (Stepped mb limit _ w2) := hS
            have HK : Hid (Frm mb w' w2) := HB1.out.trans (hO)
            clear hS hO
            go_wp2
            first | go_end0 | refine bodyPost_ret (results_none rfl _ _ _) rfl ?_
            exact ⟨rfl, HF.out, HK.out⟩
  | false =>
    rw [hc] at HC
    have hx : 10 ≤ m.at' ∨ (m.at' = 4 ∧ m.thn = 8) := by
      unfold counts at hc
      simp at hc
      by_cases q : m.at' ≤ 9
      · exact .inr (hc q)
      · left; omega
    rw [feed_free hc]
    rcases hx with hx | ⟨h4, h8⟩
    · have t2 : ¬ (m.at' : Int) ≤ 2 := by omega
      have t4 : ((m.at' : Int) == 4) = false := by rw [beq_eq_false_iff_ne]; omega
      have t8 : ((m.at' : Int) == 8) = false := by rw [beq_eq_false_iff_ne]; omega
      have t9 : ¬ (m.at' : Int) ≤ 9 := by omega
      rw [if_neg (by omega), if_neg (by omega), if_neg (by omega)]
      rw [if_neg (by omega)]
      have HS := inBody_walk mb limit m c w h g hx h14
      clear hR hN hV hP n3 h g hv hc htl hx
      go_enter Tryz.func13, Tryz.ntmps13
      go_wp2_with fail
      refine HC.mono ?_
      rintro e w' ⟨rfl, rfl⟩
      go_wp2_with fail
      refine HS.mono ?_
      rintro e w2 ⟨rfl, hS, hO⟩
      have HF : Hid (Stepped mb limit _ w2) := hS
      have HK : Hid (Frm mb w' w2) := Frm.of_only hO hl
      clear hS hO
      go_wp2
      first | go_end0 | refine bodyPost_ret (results_none rfl _ _ _) rfl ?_
      exact ⟨rfl, HF.out, HK.out⟩
    · have c0' : w.cell? ⟨mb, 0, none⟩ = some (.int .i64 4) := by rw [c0, h4]; rfl
      rw [if_neg (by omega), if_pos h4]
      clear c0
      by_cases h10 : c = 10
      · have b10 : ((c.toNat : Int) != 10) = false := by rw [h10]; rfl
        rw [if_pos h10]
        have HS := lineEnd_walk mb limit m w h g hv h4
        clear hR hN hV hP n3 h g hv hc htl h10 h4 h8
        go_enter Tryz.func13, Tryz.ntmps13
        go_wp2_with fail
        refine HC.mono ?_
        rintro e w' ⟨rfl, rfl⟩
        go_wp2_with fail
        refine HS.mono ?_
        rintro e w2 ⟨rfl, hS, hO⟩
        have HF : Hid (Stepped mb limit _ w2) := hS
        have HK : Hid (Frm mb w' w2) := Frm.of_only hO hl
        clear hS hO
        go_wp2
        first | go_end0 | refine bodyPost_ret (results_none rfl _ _ _) rfl ?_
        exact ⟨rfl, HF.out, HK.out⟩
      · have b10 : ((c.toNat : Int) != 10) = true := by rw [bne_iff_ne]; intro e; exact h10 (UInt8.toNat_inj.1 (by have : (10 : UInt8).toNat = 10 := rfl; omega))
        rw [if_neg h10]
        have HK : Hid (Frm mb w (w.setCell ⟨mb, 0, none⟩ (.int .i64 15))) := Frm.of_only (Only.set (S := (· = mb)) w 0 _ rfl) hl
        have HF : Hid (Stepped mb limit none (w.setCell ⟨mb, 0, none⟩ (.int .i64 15))) := Stepped.broke hR (part_ints hP)
        clear hR hN hV hP n3 h g hv hc htl h10 h4 h8
        go_enter Tryz.func13, Tryz.ntmps13
        go_wp2_with fail
        refine HC.mono ?_
        rintro e w' ⟨rfl, rfl⟩
        go_wp2
        first | go_end0 | refine bodyPost_ret (results_none rfl _ _ _) rfl ?_
        exact ⟨rfl, HF.out, HK.out⟩
end Go.Proofs.YtmodongnganbfaaGreatDoor.Rep
