/- satchellaw's Book in memory: what stays when lists are written over. -/
import Derived.Test.YtfngjfnakokgmaaGreatDoorBookAToTextStep
import Derived.Test.YtfngjfnakokgmaaGreatDoorTextOnly
namespace Go.Proofs.YtfngjfnakokgmaaGreatDoor.Bk
open Go.RowKit Go.Proofs.YtfngjfnakokgmaaGreatDoor.Sha Go.Proofs.YtfngjfnakokgmaaGreatDoor Go.Proofs.YtfngjfnakokgmaaGreatDoor.Txt
/-- The text of a mark. -/
def mk (q : Nat) : ByteArray := ⟨#[109, 97, 114, 107, 32, 65 + q.toUInt8, 97, 48]⟩
structure BK (bb : Nat) (vw : Value) (E : List Value) (w : World) : Prop where
  oth : ∀ i, i < 15 → i ≠ 3 → w.cell? ⟨bb, i, none⟩ = some (.slice none 0 0)
  wds : w.cell? ⟨bb, 3, none⟩ = some vw
  fro : ∀ i, w.frozen? ⟨bb, i, none⟩ = false
  ws : Own w 0 vw E
  nil' : E = [] → vw = .slice none 0 0
  wb : vw.ownBlock ≠ some bb
  rd : ∀ i (hi : i < E.length), RM (mk (i / 4)) E[i] w
theorem BK.lt {bb : Nat} {vw : Value} {E : List Value} {w : World} (h : BK bb vw E w) : bb < w.heap.size := Go.Proofs.YtfngjfnakokgmaaGreatDoor.lt_of_cell h.wds
theorem rm_block {m : ByteArray} {v : Value} {w : World} (h : RM m v w) {k : Nat} {ao : Option Addr} {n cap : Nat} (hc : w.cell? ⟨k, 0, none⟩ = some (.slice ao n cap)) : ∀ ao' n' cap' g, v = .slice ao' n' cap' → 0 < n' → ao' = some ⟨g, 0, none⟩ → g ≠ k := by
  intro ao' n' cap' g hv hp hg e
  obtain ⟨a2, n2, c2, e2, _, h⟩ := h
  rw [hv] at e2
  injection e2 with q1 q2 q3
  subst q1 q2 q3
  obtain ⟨g2, e3, _, _, h4⟩ := h hp
  rw [hg] at e3
  injection e3 with e3
  injection e3 with e3
  subst e3
  have := h4 0 hp
  rw [e, hc] at this
  cases this
theorem RM.only {m : ByteArray} {v : Value} {w w' : World} {S : Nat → Prop} (h : RM m v w) (hk : Only S w w') (hs : ∀ ao n cap g, v = .slice ao n cap → 0 < n → ao = some ⟨g, 0, none⟩ → ¬ S g) : RM m v w' := by
  obtain ⟨ao, n, cap, e, hn, h⟩ := h
  refine ⟨ao, n, cap, e, hn, fun hp => ?_⟩
  obtain ⟨g, e1, e2, e3, e4⟩ := h hp
  have hns := hs ao n cap g e hp e1
  exact ⟨g, e1, Nat.lt_of_lt_of_le e2 hk.size, e3, fun j hj => by rw [hk.cell (p := ⟨g, j, none⟩) e2 hns]; exact e4 j hj⟩
theorem only_then {S S' : Nat → Prop} {w w1 w2 : World} (h : Only S w w1) (k : Only S' w1 w2) (hs : ∀ x, S' x → S x ∨ w.heap.size ≤ x) : Only S w w2 :=
  ⟨k.os.trans h.os, k.tape.trans h.tape, k.output.trans h.output, Nat.le_trans h.size k.size, fun i hi hn => (k.block i (Nat.lt_of_lt_of_le hi h.size) (fun e => (hs i e).elim hn (fun q => by omega))).trans (h.block i hi hn)⟩
theorem only_setCells (g : Nat) : ∀ (vs : List Value) (o : Nat) (w : World), Only (fun k => k = g) w (w.setCells g o vs)
  | [], _, w => Only.refl _ w
  | v :: vs, o, w => by
    have h1 : Only (fun k => k = g) w (w.setCell ⟨g, o, none⟩ v) := Only.set (S := fun k => k = g) w o v rfl
    exact h1.trans (only_setCells g vs (o + 1) _)
theorem turned_only {w w' : World} {v v' : Value} {news : List Value} (h : Turned w w' v v' news) : Only (fun k => v.ownBlock = some k) w w' := by
  rcases h with ⟨g, o, n, cap, rfl, _, rfl⟩ | ⟨h, _⟩
  · exact (only_setCells g news o w).mono (fun k hk => by rw [hk]; rfl)
  · exact Only.of_below h
theorem turned_keeps {w w' : World} {v v' : Value} {m : ByteArray} (h : Turned w w' v v' [.string m]) : Keeps m w w' := by
  rcases h with ⟨g, o, n, cap, rfl, _, rfl⟩ | ⟨h, _⟩
  · exact Keeps.set m w ⟨g, o, none⟩
  · exact Keeps.below m h
theorem turned_at {w w' : World} {v v' : Value} {news : List Value} (h : Turned w w' v v' news) : ∀ g, v'.ownBlock = some g → v.ownBlock = some g ∨ w.heap.size ≤ g := by
  intro g hg
  rcases h with ⟨g2, o, n, cap, rfl, e, _⟩ | ⟨_, h⟩
  · rw [e] at hg; injection hg with hg; subst hg; exact .inl rfl
  · exact .inr (h g hg)
theorem own_alloc {w : World} {base : Nat} {v : Value} {xs : List Value} (h : Own w base v xs) (o : Obj) : Own (w.alloc o) base v xs := h.step (below_one w o)
theorem own_rm {w : World} {v : Value} {n : Nat} {m : ByteArray} (h : Own w 0 v (List.replicate n (.string m))) (hn : n ≤ 1048580) : RM m v w := by
  rcases h with ⟨rfl, e⟩ | ⟨g, cap, rfl, _, hg, hc, hcell, _⟩
  · exact ⟨none, 0, 0, rfl, by omega, fun h => absurd h (Nat.lt_irrefl _)⟩
  · rw [List.length_replicate] at *
    exact ⟨_, n, cap, rfl, hn, fun _ => ⟨g, rfl, hg, hc, fun j hj => hcell j _ (by rw [List.getElem?_replicate, if_pos hj])⟩⟩
theorem own_slice {w : World} {base : Nat} {v : Value} {xs : List Value} (h : Own w base v xs) : ∃ ao cap, v = .slice ao xs.length cap := by
  rcases h with ⟨rfl, rfl⟩ | ⟨g, cap, rfl, _⟩
  · exact ⟨none, 0, rfl⟩
  · exact ⟨_, cap, rfl⟩
theorem own_setAt {w : World} {base g n cap : Nat} {xs : List Value} (h : Own w base (.slice (some ⟨g, 0, none⟩) n cap) xs) (j : Nat) (hj : j < xs.length) (u : Value) : Own (w.setCell ⟨g, j, none⟩ u) base (.slice (some ⟨g, 0, none⟩) n cap) (xs.set j u) := by
  rcases h with ⟨e, _⟩ | ⟨g', cap', e, h1, h2, h3, h4, h5⟩
  · cases e
  · injection e with e1 e2 e3
    injection e1 with e1
    injection e1 with e1
    subst e1 e2 e3
    refine .inr ⟨g, cap, by rw [List.length_set], h1, by simpa using h2, by rw [List.length_set]; exact h3, fun i v hi => ?_, fun i hi => ⟨?_, by rw [World.frozen?_setCell]; exact (h5 i hi).2⟩⟩
    · by_cases e : j = i
      · subst e
        rw [List.getElem?_set_self hj] at hi
        injection hi with hi
        subst hi
        obtain ⟨x, hx⟩ := Option.isSome_iff_exists.1 (h5 j (by omega)).1
        exact World.cell?_setCell_same _ _ _ hx
      · rw [List.getElem?_set_ne e] at hi
        rw [World.cell?_setCell_other _ _ _ _ (by intro q; injection q with _ q; exact e q)]
        exact h4 i v hi
    · obtain ⟨x, hx⟩ := Option.isSome_iff_exists.1 (h5 i hi).1
      rcases cell_set_same (b := ⟨g, j, none⟩) (u := u) hx with q | ⟨_, q⟩ <;> rw [q] <;> rfl
theorem own_only' {S : Nat → Prop} {w w' : World} {base : Nat} {v : Value} {xs : List Value} (h : Own w base v xs) (hk : Only S w w') (hs : ∀ g, v.ownBlock = some g → ¬ S g) : Own w' base v xs := by
  rcases h with h | ⟨g, cap, hv, h1, h2, h3, h4, h5⟩
  · exact .inl h
  · have hn : ¬ S g := hs g (by rw [hv]; rfl)
    have hb := hk.block g h2 hn
    refine .inr ⟨g, cap, hv, h1, Nat.lt_of_lt_of_le h2 hk.size, h3, fun j u hj => ?_, fun j hj => ?_⟩
    · rw [hk.cell (p := ⟨g, j, none⟩) h2 hn]; exact h4 j u hj
    · have e : w'.frozen? ⟨g, j, none⟩ = w.frozen? ⟨g, j, none⟩ := by simp only [World.frozen?, hb]
      rw [hk.cell (p := ⟨g, j, none⟩) h2 hn, e]; exact h5 j hj
theorem rep_snoc (n : Nat) (m : Value) : List.replicate n m ++ [m] = List.replicate (n + 1) m := List.replicate_succ'.symm
theorem own_lt {w : World} {base : Nat} {v : Value} {xs : List Value} (h : Own w base v xs) : ∀ g, v.ownBlock = some g → g < w.heap.size := by
  intro g hg
  rcases h with ⟨rfl, _⟩ | ⟨g', cap, rfl, _, hl, _⟩
  · cases hg
  · simp only [Value.ownBlock, Option.some.injEq] at hg
    omega
end Go.Proofs.YtfngjfnakokgmaaGreatDoor.Bk
/- satchellaw's mark and Book.texts. -/
namespace Go.Proofs.YtfngjfnakokgmaaGreatDoor.Bk
open Go.RowKit Go.Proofs.YtfngjfnakokgmaaGreatDoor.Sha Go.Proofs.YtfngjfnakokgmaaGreatDoor Go.Proofs.YtfngjfnakokgmaaGreatDoor.Txt
theorem conv_three (wx : World) (g : Nat) (a b c : UInt8) (h0 : wx.cell? ⟨g, 0, none⟩ = some (.int .u8 a.toNat)) (h1 : wx.cell? ⟨g, 1, none⟩ = some (.int .u8 b.toNat)) (h2 : wx.cell? ⟨g, 2, none⟩ = some (.int .u8 c.toNat)) (cap : Nat) : (convert 102 9 (.slice (some ⟨g, 0, none⟩) 3 cap)).run Tryz.prog wx = .ok (.string ⟨#[a, b, c]⟩) wx :=
  run_convert_bytes_back wx 102 9 5 ⟨g, 0, none⟩ cap [a, b, c] Tryz.underlying102 Tryz.underlying5 Tryz.underlying9 (fun j hj => by
    match j, hj with
    | 0, _ => exact h0
    | 1, _ => exact h1
    | 2, _ => exact h2)
theorem mark_walk (q : Nat) (hq : q < 3) (w : World) : Calls Tryz.prog 19 #[.int .i64 (q : Int)] w fun e w' => e = .returned (.string (mk q)) ∧ Below w.heap.size w w' := by
  have add : ∀ (a : UInt8) (wx : World), (Op.stringOp .add ⟨#[109, 97, 114, 107, 32]⟩ ⟨#[a, 97, 48]⟩).run Tryz.prog wx = .ok (.string ⟨#[109, 97, 114, 107, 32, a, 97, 48]⟩) wx := fun a wx => by
    rw [run_string_add_sum wx _ _ (by show 5 + 3 ≤ 9223372036854775807; decide)]; rfl
  match q, hq with
  | 0, _ =>
    have cv := conv_three (w.alloc (.cells #[.int .u8 65, .int .u8 97, .int .u8 48] 5)) w.heap.size 65 97 48 (by simp) (by simp) (by simp)
    have ad := add 65
    clear add
    go_enter Tryz.func19, Tryz.ntmps19
    go_wp2
    go_ret
    exact ⟨rfl, below_one _ _⟩
  | 1, _ =>
    have cv := conv_three (w.alloc (.cells #[.int .u8 66, .int .u8 97, .int .u8 48] 5)) w.heap.size 66 97 48 (by simp) (by simp) (by simp)
    have ad := add 66
    clear add
    go_enter Tryz.func19, Tryz.ntmps19
    go_wp2
    go_ret
    exact ⟨rfl, below_one _ _⟩
  | 2, _ =>
    have cv := conv_three (w.alloc (.cells #[.int .u8 67, .int .u8 97, .int .u8 48] 5)) w.heap.size 67 97 48 (by simp) (by simp) (by simp)
    have ad := add 67
    clear add
    go_enter Tryz.func19, Tryz.ntmps19
    go_wp2
    go_ret
    exact ⟨rfl, below_one _ _⟩
end Go.Proofs.YtfngjfnakokgmaaGreatDoor.Bk
/- satchellaw's Book.texts. -/
namespace Go.Proofs.YtfngjfnakokgmaaGreatDoor.Bk
open Go.RowKit Go.Proofs.YtfngjfnakokgmaaGreatDoor.Sha Go.Proofs.YtfngjfnakokgmaaGreatDoor Go.Proofs.YtfngjfnakokgmaaGreatDoor.Txt
/-- The blocks that texts may turn. -/
def SS (bb : Nat) (v vw : Value) (k : Nat) : Prop := k = bb ∨ v.ownBlock = some k ∨ vw.ownBlock = some k
/-- What texts leaves. -/
def TPost (bb : Nat) (vw : Value) (E : List Value) (v : Value) (w w' : World) : Prop :=
  ∃ vw' t1 t2 t3, BK bb vw' (E ++ [v, t1, t2, t3]) w' ∧ Only (SS bb v vw) w w' ∧ (∀ x ∈ [v, t1, t2, t3], ∀ g, x.ownBlock = some g → v.ownBlock = some g ∨ w.heap.size ≤ g) ∧ (∀ g, vw'.ownBlock = some g → vw.ownBlock = some g ∨ w.heap.size ≤ g)
theorem strsInfo : (Tryz.prog.info? 39).map (fun i => (i.zero, i.size, i.bytes)) = some (some (.slice none 0 0), 1, 24) := by kernel_rfl
/-- What the loop keeps: the first k are m. -/
def WRel (v : Value) (m : ByteArray) (T : List ByteArray) (w : World) (i : Value) (wx : World) : Prop :=
  ∃ k : Nat, i = .int .i64 (k : Int) ∧ k ≤ T.length ∧ Own wx 0 v (List.replicate k (.string m) ++ (T.drop k).map strv) ∧ Only (fun g => v.ownBlock = some g) w wx
theorem rep_set (m : Value) (T : List ByteArray) (k : Nat) (hk : k < T.length) : (List.replicate k m ++ (T.drop k).map strv).set k m = List.replicate (k + 1) m ++ (T.drop (k + 1)).map strv := by
  rw [List.set_append_right _ _ (by simp), List.length_replicate, Nat.sub_self, List.drop_eq_getElem_cons hk, List.map_cons, List.set_cons_zero, List.replicate_succ']
  simp
theorem rm_own {m : ByteArray} {x : Value} {w : World} (h : RM m x w) : ∃ ao n cap, x = .slice ao n cap := by
  obtain ⟨ao, n, cap, e, _⟩ := h
  exact ⟨ao, n, cap, e⟩
/-- Where a list of texts lies there is no book. -/
theorem own_not_slice {w : World} {v : Value} {T : List ByteArray} (h : Own w 0 v (T.map strv)) (h0 : T = [] → v = .slice none 0 0) {k : Nat} {ao : Option Addr} {n cap : Nat} (hc : w.cell? ⟨k, 0, none⟩ = some (.slice ao n cap)) : v.ownBlock ≠ some k := by
  intro hk
  rcases h with ⟨rfl, _⟩ | ⟨g, cap', rfl, _, _, _, h4, _⟩
  · cases hk
  · simp only [Value.ownBlock, Option.some.injEq] at hk
    subst hk
    cases T with
    | nil => have := h0 rfl; cases this
    | cons t T =>
      have := h4 0 (strv t) rfl
      rw [hc] at this
      cases this
theorem bk_words {bb : Nat} {vw : Value} {E : List Value} {w : World} (h : BK bb vw E w) {g : Nat} (hg : vw.ownBlock = some g) : ∃ ao n cap, w.cell? ⟨g, 0, none⟩ = some (.slice ao n cap) := by
  rcases h.ws with ⟨rfl, _⟩ | ⟨g', cap, hv, _, _, _, h4, _⟩
  · cases hg
  · have e : g' = g := by rw [hv] at hg; simpa [Value.ownBlock] using hg
    subst e
    cases hE : E with
    | nil => have := h.nil' hE; rw [this] at hg; cases hg
    | cons x E' =>
      have h0 := h.rd 0 (by rw [hE]; simp)
      obtain ⟨ao, n, cap2, e2⟩ := rm_own h0
      have h5 := h4 0 x (by rw [hE]; rfl)
      have e3 : x = E[0]'(by rw [hE]; simp) := by simp [hE]
      rw [e3, e2] at h5
      exact ⟨ao, n, cap2, h5⟩
theorem BK.only {bb : Nat} {vw : Value} {E : List Value} {w w' : World} {S : Nat → Prop} (h : BK bb vw E w) (hk : Only S w w') (h1 : ¬ S bb) (h2 : ∀ g, vw.ownBlock = some g → ¬ S g) (h3 : ∀ e ∈ E, ∀ ao n cap g, e = .slice ao n cap → 0 < n → ao = some ⟨g, 0, none⟩ → ¬ S g) : BK bb vw E w' := by
  have hl := h.lt
  have hb := hk.block bb hl h1
  refine ⟨fun i hi hn => by rw [hk.cell (p := ⟨bb, i, none⟩) hl h1]; exact h.oth i hi hn, by rw [hk.cell (p := ⟨bb, 3, none⟩) hl h1]; exact h.wds, fun i => ?_, own_only' h.ws hk h2, h.nil', h.wb, fun i hi => (h.rd i hi).only hk ?_⟩
  · have e : w'.frozen? ⟨bb, i, none⟩ = w.frozen? ⟨bb, i, none⟩ := by simp only [World.frozen?, hb]
    rw [e]; exact h.fro i
  · intro ao n cap g e hp e1
    exact h3 E[i] (List.getElem_mem hi) ao n cap g e hp e1
theorem bk_done {bb : Nat} {vw vw' v t1 t2 t3 : Value} {E : List Value} {q : Nat} {w5 w6 : World} {o : Obj} (hE : E.length = 4 * q) (h : BK bb vw E w5) (r0 : RM (mk q) v w5) (r1 : RM (mk q) t1 w5) (r2 : RM (mk q) t2 w5) (r3 : RM (mk q) t3 w5) (ho : Own w6 0 vw' (E ++ [v, t1, t2, t3])) (ht : Turned (w5.alloc o) w6 vw vw' [v, t1, t2, t3]) : BK bb vw' (E ++ [v, t1, t2, t3]) (w6.setCell ⟨bb, 3, none⟩ vw') := by
  have hb5 := below_one w5 o
  have hk5 : Only (fun _ => False) w5 (w5.alloc o) := Only.of_below hb5
  have h5 : BK bb vw E (w5.alloc o) := h.only hk5 (fun e => e) (fun _ _ e => e) (fun _ _ _ _ _ _ _ _ _ e => e)
  have hk6 := turned_only ht
  have hl := h5.lt
  have hbb : ¬ (vw.ownBlock = some bb) := h5.wb
  have hwb : vw'.ownBlock ≠ some bb := fun e => (turned_at ht bb e).elim hbb (fun q => by omega)
  have hl6 : bb < w6.heap.size := Nat.lt_of_lt_of_le hl hk6.size
  have cell6 : ∀ i, w6.cell? ⟨bb, i, none⟩ = (w5.alloc o).cell? ⟨bb, i, none⟩ := fun i => hk6.cell (p := ⟨bb, i, none⟩) hl hbb
  have hblk := hk6.block bb hl hbb
  have hks : Only (fun k => k = bb) w6 (w6.setCell ⟨bb, 3, none⟩ vw') := Only.set (S := fun k => k = bb) w6 3 vw' rfl
  have rm7 : ∀ (m : ByteArray) (x : Value), RM m x (w5.alloc o) → RM m x (w6.setCell ⟨bb, 3, none⟩ vw') := fun m x hx => by
    have hx6 : RM m x w6 := hx.only hk6 (fun ao n cap g e hp e1 hS => by
      obtain ⟨a2, n2, c2, hc⟩ := bk_words h5 hS
      exact rm_block hx hc ao n cap g e hp e1 rfl)
    exact hx6.only hks (fun ao n cap g e hp e1 hS => rm_block hx6 (k := bb) (by rw [cell6]; exact h5.oth 0 (by decide) (by decide)) ao n cap g e hp e1 hS)
  have rmA : ∀ x, RM (mk q) x w5 → RM (mk q) x (w5.alloc o) := fun x hx => hx.keeps (Keeps.below _ hb5)
  refine ⟨fun i hi hn => ?_, ?_, fun i => ?_, own_only' ho hks (fun g hg e => hwb (by rw [← e]; exact hg)), fun e => (by simp at e), hwb, fun i hi => ?_⟩
  · rw [World.cell?_setCell_other _ _ _ _ (by intro e; injection e with _ e; exact hn e.symm), cell6]; exact h5.oth i hi hn
  · exact World.cell?_setCell_same _ _ _ (by rw [cell6]; exact h5.wds)
  · rw [World.frozen?_setCell]
    have e : w6.frozen? ⟨bb, i, none⟩ = (w5.alloc o).frozen? ⟨bb, i, none⟩ := by simp only [World.frozen?, hblk]
    rw [e]; exact h5.fro i
  · rcases Nat.lt_or_ge i E.length with hi' | hi'
    · rw [List.getElem_append_left hi']
      exact rm7 _ _ (h5.rd i hi')
    · rw [List.getElem_append_right hi']
      have hi4 : i - E.length < 4 := by rw [List.length_append] at hi; simp at hi; omega
      have hq : i / 4 = q := by omega
      rw [hq]
      have four : ∀ j (h : j < [v, t1, t2, t3].length), RM (mk q) ([v, t1, t2, t3][j]) (w6.setCell ⟨bb, 3, none⟩ vw') := fun j h => by
        match j, h with
        | 0, _ => exact rm7 _ _ (rmA _ r0)
        | 1, _ => exact rm7 _ _ (rmA _ r1)
        | 2, _ => exact rm7 _ _ (rmA _ r2)
        | 3, _ => exact rm7 _ _ (rmA _ r3)
      exact four _ _
end Go.Proofs.YtfngjfnakokgmaaGreatDoor.Bk
/- satchellaw's Book.texts: its walk. -/
namespace Go.Proofs.YtfngjfnakokgmaaGreatDoor.Bk
open Go.RowKit Go.Proofs.YtfngjfnakokgmaaGreatDoor.Sha Go.Proofs.YtfngjfnakokgmaaGreatDoor Go.Proofs.YtfngjfnakokgmaaGreatDoor.Txt
theorem one_cell (w : World) (x : Value) (t : TypeId) : ∀ j u, [x][j]? = some u → (w.alloc (.cells #[x] t)).cell? ((⟨w.heap.size, 0, none⟩ : Addr).add j) = some u := by
  intro j u hj
  match j, hj with
  | 0, hj => simp at hj; subst hj; simp [Addr.add]
theorem four_cells (w : World) (a b c d : Value) (t : TypeId) : ∀ j u, [a, b, c, d][j]? = some u → (w.alloc (.cells #[a, b, c, d] t)).cell? ((⟨w.heap.size, 0, none⟩ : Addr).add j) = some u := by
  intro j u hj
  match j, hj with
  | 0, hj => simp at hj; subst hj; simp [Addr.add]
  | 1, hj => simp at hj; subst hj; simp [Addr.add]
  | 2, hj => simp at hj; subst hj; simp [Addr.add]
  | 3, hj => simp at hj; subst hj; simp [Addr.add]
theorem own_at {w : World} {v : Value} {xs : List Value} (h : Own w 0 v xs) (k : Nat) (hk : k < xs.length) : ∃ g cap, v = .slice (some ⟨g, 0, none⟩) xs.length cap ∧ w.cell? ⟨g, k, none⟩ = some xs[k] ∧ w.frozen? ⟨g, k, none⟩ = false := by
  rcases h with ⟨rfl, rfl⟩ | ⟨g, cap, rfl, _, _, h3, h4, h5⟩
  · simp at hk
  · exact ⟨g, cap, rfl, h4 k _ (List.getElem?_eq_getElem hk), (h5 k (by omega)).2⟩
theorem app_step {v u u' : Value} {w wr w2 : World} {o : Obj} {news : List Value} (hK : Only (fun k => v.ownBlock = some k) w wr) (hu : ∀ g, u.ownBlock = some g → v.ownBlock = some g ∨ w.heap.size ≤ g) (ht : Turned (wr.alloc o) w2 u u' news) : Only (fun k => v.ownBlock = some k) w w2 ∧ ∀ g, u'.ownBlock = some g → v.ownBlock = some g ∨ w.heap.size ≤ g := by
  have z := hK.size
  have hA : Only (fun k => v.ownBlock = some k) w (wr.alloc o) := hK.trans (Only.of_below (below_one wr o))
  refine ⟨only_then hA (turned_only ht) hu, fun g hg => ?_⟩
  rcases turned_at ht g hg with e | e
  · exact hu g e
  · right; simp at e; omega
theorem bk_store {bb : Nat} {vw vw' : Value} {E news : List Value} {w5 w6 : World} {o : Obj} (h : BK bb vw E w5) (ht : Turned (w5.alloc o) w6 vw vw' news) : w6.cell? ⟨bb, 3, none⟩ = some vw ∧ w6.frozen? ⟨bb, 3, none⟩ = false := by
  have h5 : BK bb vw E (w5.alloc o) := h.only (Only.of_below (below_one w5 o)) (fun e => e) (fun _ _ e => e) (fun _ _ _ _ _ _ _ _ _ e => e)
  have hk6 := turned_only ht
  have hblk := hk6.block bb h5.lt h5.wb
  refine ⟨by rw [hk6.cell (p := ⟨bb, 3, none⟩) h5.lt h5.wb]; exact h5.wds, ?_⟩
  have e : w6.frozen? ⟨bb, 3, none⟩ = (w5.alloc o).frozen? ⟨bb, 3, none⟩ := by simp only [World.frozen?, hblk]
  rw [e]; exact h5.fro 3
theorem done_only {bb : Nat} {v vw vw' : Value} {news : List Value} {w w5 w6 : World} {o : Obj} (hK : Only (fun k => v.ownBlock = some k) w w5) (ht : Turned (w5.alloc o) w6 vw vw' news) : Only (SS bb v vw) w (w6.setCell ⟨bb, 3, none⟩ vw') := by
  have k5 : Only (SS bb v vw) w w5 := hK.mono (fun k hk => .inr (.inl hk))
  have k6 : Only (SS bb v vw) w (w5.alloc o) := k5.trans (Only.of_below (below_one w5 o))
  have k7 : Only (SS bb v vw) (w5.alloc o) w6 := (turned_only ht).mono (fun k hk => .inr (.inr hk))
  exact (k6.trans k7).trans (Only.set (S := SS bb v vw) _ _ _ (.inl rfl))
set_option maxHeartbeats 2000000 in
set_option maxRecDepth 100000 in
theorem texts_walk (q : Nat) (hq : q < 3) (bb : Nat) (vw v : Value) (E : List Value) (T : List ByteArray) (w : World) (hE : E.length = 4 * q) (hB : BK bb vw E w) (hO : Own w 0 v (T.map strv)) (h0 : T = [] → v = .slice none 0 0) (hT : T.length ≤ 1048577) (hsep : ∀ e ∈ E, ∀ ao n cap g, e = .slice ao n cap → 0 < n → ao = some ⟨g, 0, none⟩ → v.ownBlock ≠ some g) :
    Calls Tryz.prog 9 #[.pointer (some ⟨bb, 0, none⟩), v] w fun e w' => e = .returned (.tuple #[]) ∧ TPost bb vw E v w w' := by
  obtain ⟨i0, hi, hz0, hz1, hz2⟩ := info_parts strInfo
  obtain ⟨j0, hj, hy0, hy1, hy2⟩ := info_parts strsInfo
  obtain ⟨ao, cap, hv⟩ := own_slice hO
  obtain ⟨aw, capw, hvw⟩ := own_slice hB.ws
  rw [List.length_map] at hv
  have c3 : w.cell? ⟨bb, 3, none⟩ = some (.slice aw E.length capw) := by rw [hB.wds, hvw]
  have HB : Hid (BK bb vw E w) := hB
  have HO : Hid (Own w 0 v (T.map strv)) := hO
  have HSep : Hid (∀ e ∈ E, ∀ ao n cap g, e = .slice ao n cap → 0 < n → ao = some ⟨g, 0, none⟩ → v.ownBlock ≠ some g) := hsep
  have H0 : Hid (T = [] → v = .slice none 0 0) := h0
  have HV : Hid (v = .slice ao T.length cap) := hv
  have HVw : Hid (vw = .slice aw E.length capw) := hvw
  rw [hv]
  clear hB hO hsep h0 hv hvw
  go_enter Tryz.func9, Tryz.ntmps9
  go_wp2_with fail
  refine (mark_walk q hq w).mono ?_
  rintro e w1 ⟨rfl, hb1⟩
  have HE : Hid (E.length = 4 * q) := hE
  clear c3 hE
  go_wp2
  go_loopw [5] (fun i wx => WRel v (mk q) T w i wx) (fun i _ => T.length - (intOf i).toNat)
  case atStart => exact ⟨0, rfl, Nat.zero_le _, by simpa using HO.out.step hb1, Only.of_below hb1⟩
  case round =>
    obtain ⟨k, rfl, hk, hOk, hKk⟩ := hrel
    by_cases hlt : k < T.length
    · have hlt' : (k : Int) < (T.length : Int) := by omega
      have hlen : (List.replicate k (Value.string (mk q)) ++ (T.drop k).map strv).length = T.length := by simp; omega
      obtain ⟨g, cap2, e1, hcell, hfro⟩ := own_at hOk k (by rw [hlen]; exact hlt)
      rw [hlen, HV.out] at e1
      injection e1 with e1 _ e2
      subst e1 e2
      have HR : Hid (WRel v (mk q) T w (.int .i64 ((k : Int) + 1)) (wr.setCell ⟨g, k, none⟩ (.string (mk q)))) := by
        have hOk' := hOk
        rw [HV.out] at hOk'
        refine ⟨k + 1, by simp, hlt, ?_, hKk.trans (Only.set (S := fun g => v.ownBlock = some g) _ _ _ (by rw [HV.out]; rfl))⟩
        rw [← rep_set _ _ _ hlt, HV.out]
        exact own_setAt hOk' k (by rw [hlen]; exact hlt) _
      clear hOk hKk
      go_wp2
      go_roundw
      case rel => exact HR.out
      case measure => simp [intOf]; omega
    · have hk' : k = T.length := by omega
      have hO1 : Own wr 0 v (List.replicate T.length (.string (mk q))) := by
        rw [hk', List.drop_length] at hOk
        simpa using hOk
      have hO1' := hO1
      rw [HV.out] at hO1'
      clear hOk
      go_wp2_with (at_builtin; refine wpList_append_T rfl _ _ 39 rfl 9 i0 (.string ⟨#[]⟩) 16 Tryz.underlying39 hi hz0 hz1 hz2 rfl _ _ rfl (own_alloc hO1' _) ⟨wr.heap.size, 0, none⟩ 1 1 [.string (mk q)] rfl rfl (one_cell _ _ _) (fun u hu => by simp at hu; subst hu; rfl) (by decide) (by rw [List.length_replicate]; unfold maxLen; omega) (by rw [List.length_replicate]; omega) ?_)
      intro v1 w2 hOv1 ht1
      rw [rep_snoc] at hOv1
      rw [← HV.out] at ht1
      obtain ⟨hK2, hn1⟩ := app_step hKk (fun g hg => .inl hg) ht1
      have hk2 := (Keeps.below (mk q) (below_one wr (.cells #[.string (mk q)] 9))).trans (turned_keeps ht1)
      have HR0 : Hid (RM (mk q) v w2) := (own_rm hO1 (by omega)).keeps hk2
      clear ht1 hk2 hKk hO1 hO1'
      go_wp2_with (at_builtin; refine wpList_append_T rfl _ _ 39 rfl 9 i0 (.string ⟨#[]⟩) 16 Tryz.underlying39 hi hz0 hz1 hz2 rfl _ _ rfl (own_alloc hOv1 _) ⟨w2.heap.size, 0, none⟩ 1 1 [.string (mk q)] rfl rfl (one_cell _ _ _) (fun u hu => by simp at hu; subst hu; rfl) (by decide) (by rw [List.length_replicate]; unfold maxLen; omega) (by rw [List.length_replicate]; omega) ?_)
      intro v2 w3 hOv2 ht2
      rw [rep_snoc] at hOv2
      obtain ⟨hK3, hn2⟩ := app_step hK2 hn1 ht2
      have hk3 := (Keeps.below (mk q) (below_one w2 (.cells #[.string (mk q)] 9))).trans (turned_keeps ht2)
      have HR0 : Hid (RM (mk q) v w3) := HR0.out.keeps hk3
      have HR1 : Hid (RM (mk q) v1 w3) := (own_rm hOv1 (by omega)).keeps hk3
      clear ht2 hk3 hK2 hOv1
      go_wp2_with (at_builtin; refine wpList_append_T rfl _ _ 39 rfl 9 i0 (.string ⟨#[]⟩) 16 Tryz.underlying39 hi hz0 hz1 hz2 rfl _ _ rfl (own_alloc hOv2 _) ⟨w3.heap.size, 0, none⟩ 1 1 [.string (mk q)] rfl rfl (one_cell _ _ _) (fun u hu => by simp at hu; subst hu; rfl) (by decide) (by rw [List.length_replicate]; unfold maxLen; omega) (by rw [List.length_replicate]; omega) ?_)
      intro v3 w4 hOv3 ht3
      rw [rep_snoc] at hOv3
      obtain ⟨hK4, hn3⟩ := app_step hK3 hn2 ht3
      have hk4 := (Keeps.below (mk q) (below_one w3 (.cells #[.string (mk q)] 9))).trans (turned_keeps ht3)
      have HR0 : Hid (RM (mk q) v w4) := HR0.out.keeps hk4
      have HR1 : Hid (RM (mk q) v1 w4) := HR1.out.keeps hk4
      have HR2 : Hid (RM (mk q) v2 w4) := (own_rm hOv2 (by omega)).keeps hk4
      have HR3 : Hid (RM (mk q) v3 w4) := own_rm hOv3 (by omega)
      clear ht3 hk4 hK3 hOv2 hOv3
      have hB4 : BK bb vw E w4 := HB.out.only hK4 (own_not_slice HO.out H0.out (HB.out.oth 0 (by decide) (by decide))) (fun g hg => by
        obtain ⟨a, n, c, hc⟩ := bk_words HB.out hg
        exact own_not_slice HO.out H0.out hc) HSep.out
      have c5 : w4.cell? ⟨bb, 3, none⟩ = some (.slice aw E.length capw) := by rw [hB4.wds, HVw.out]
      have hW4 := hB4.ws
      rw [HVw.out] at hW4
      obtain ⟨a1, n1, k1, e1⟩ := rm_own HR1.out
      obtain ⟨a2, n2, k2, e2⟩ := rm_own HR2.out
      obtain ⟨a3, n3, k3, e3⟩ := rm_own HR3.out
      subst e1 e2 e3
      have ones : ∀ u ∈ [Value.slice ao T.length cap, Value.slice a1 n1 k1, Value.slice a2 n2 k2, Value.slice a3 n3 k3], u.oneCell' = true := by
        intro u hu
        simp only [List.mem_cons, List.not_mem_nil, or_false] at hu
        rcases hu with rfl | rfl | rfl | rfl <;> rfl
      have HB4 : Hid (BK bb vw E w4) := hB4
      have HN : Hid (∀ x ∈ [v, .slice a1 n1 k1, .slice a2 n2 k2, .slice a3 n3 k3], ∀ g, x.ownBlock = some g → v.ownBlock = some g ∨ w.heap.size ≤ g) := fun x hx g hg => by
        simp only [List.mem_cons, List.not_mem_nil, or_false] at hx
        rcases hx with rfl | rfl | rfl | rfl
        · exact .inl hg
        · exact hn1 g hg
        · exact hn2 g hg
        · exact hn3 g hg
      have HK4 : Hid (Only (fun k => v.ownBlock = some k) w w4) := hK4
      clear hB4 hn1 hn2 hn3 hK4
      go_wp2_with (at_builtin; refine wpList_append_T rfl _ _ 26 rfl 39 j0 (.slice none 0 0) 24 Tryz.underlying26 hj hy0 hy1 hy2 rfl _ _ rfl (own_alloc hW4 _) ⟨w4.heap.size, 0, none⟩ 4 4 [.slice ao T.length cap, .slice a1 n1 k1, .slice a2 n2 k2, .slice a3 n3 k3] rfl rfl (four_cells _ _ _ _ _ _) ones (by decide) (by have := HE.out; unfold maxLen; omega) (by have := HE.out; omega) ?_)
      intro v4 w6 hO6 ht6
      rw [← HVw.out, ← HV.out] at ht6
      rw [← HV.out] at hO6
      obtain ⟨a4, k4, e4⟩ := own_slice hO6
      subst e4
      obtain ⟨c6, f6⟩ := bk_store HB4.out ht6
      rw [HVw.out] at c6
      have HF : Hid (TPost bb vw E v w (w6.setCell ⟨bb, 3, none⟩ (.slice a4 (E ++ [v, .slice a1 n1 k1, .slice a2 n2 k2, .slice a3 n3 k3]).length k4))) := by
        refine ⟨_, _, _, _, bk_done HE.out HB4.out HR0.out HR1.out HR2.out HR3.out hO6 ht6, ?_, HN.out, ?_⟩
        · exact done_only HK4.out ht6
        · intro g hg
          have z := HK4.out.size
          rcases turned_at ht6 g hg with e | e
          · exact .inl e
          · right; simp at e; omega
      clear ht6 hO6
      go_wp2
      go_end0
      have hF := HF.out
      rw [List.length_append] at hF
      rw [← HV.out]
      exact ⟨rfl, hF⟩
end Go.Proofs.YtfngjfnakokgmaaGreatDoor.Bk
