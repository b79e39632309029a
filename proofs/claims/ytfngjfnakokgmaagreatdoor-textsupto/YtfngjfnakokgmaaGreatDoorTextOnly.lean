/- What is one's own stays while only the reader turns. -/
import Derived.Test.YtfngjfnakokgmaaGreatDoorTextNumToTextQuot
namespace Go.Proofs.YtfngjfnakokgmaaGreatDoor.Txt
open Go.RowKit Go.Proofs.YtfngjfnakokgmaaGreatDoor.Sha
theorem own_only {S : Nat → Prop} {w w' : World} {base : Nat} {v : Value} {xs : List Value} (h : Own w base v xs) (hk : Only S w w') (hS : ∀ k, S k → k < base) : Own w' base v xs := by
  rcases h with h | ⟨g, cap, hv, h1, h2, h3, h4, h5⟩
  · exact .inl h
  · have hn : ¬ S g := fun hs => Nat.not_le.2 (hS g hs) h1
    have hb := hk.block g h2 hn
    refine .inr ⟨g, cap, hv, h1, Nat.lt_of_lt_of_le h2 hk.size, h3, fun j u hj => ?_, fun j hj => ?_⟩
    · rw [hk.cell (p := ⟨g, j, none⟩) h2 hn]; exact h4 j u hj
    · have e : w'.frozen? ⟨g, j, none⟩ = w.frozen? ⟨g, j, none⟩ := by simp only [World.frozen?, hb]
      rw [hk.cell (p := ⟨g, j, none⟩) h2 hn, e]; exact h5 j hj
theorem RD.of_below {rb : Nat} {s : ByteArray} {a : Nat} {bad : Bool} {w w' : World} {base : Nat} (h : RD rb s a bad w) (hb : Below base w w') (hr : rb < base) : RD rb s a bad w' := by
  have g : ∀ j, w'.cell? ⟨rb, j, none⟩ = w.cell? ⟨rb, j, none⟩ := fun j => hb.cell (p := ⟨rb, j, none⟩) hr
  obtain ⟨ev, he, hbad⟩ := h.c2
  exact ⟨by rw [g]; exact h.c0, by rw [g]; exact h.c1, ⟨ev, by rw [g]; exact he, hbad⟩, fun j => by rw [hb.frozen (p := ⟨rb, j, none⟩) hr]; exact h.fro j, Nat.lt_of_lt_of_le h.lt hb.size, h.le⟩
theorem Only.then_below {S : Nat → Prop} {w w1 w2 : World} (h : Only S w w1) (hb : Below w.heap.size w1 w2) : Only S w w2 :=
  ⟨hb.os.trans h.os, hb.tape.trans h.tape, hb.output.trans h.output, Nat.le_trans h.size hb.size, fun k hk hn => (hb.block k hk).trans (h.block k hk hn)⟩
theorem conv_nil (w : World) : (convert 102 9 (.slice none 0 0)).run Tryz.prog w = .ok (.string ⟨#[]⟩) w := by kernel_rfl
theorem own_string {w : World} {base : Nat} {v : Value} {l : List UInt8} (h : OwnL u8v w base v l) : (convert 102 9 v).run Tryz.prog w = .ok (.string ⟨l.toArray⟩) w := by
  rcases h with ⟨hv, hx⟩ | ⟨g, cap, hv, _, _, _, hc, _⟩
  · have e : l = [] := by simpa using hx
    subst e
    rw [hv]; exact conv_nil w
  · rw [hv, List.length_map]
    refine run_convert_bytes_back w 102 9 5 ⟨g, 0, none⟩ cap l Tryz.underlying102 Tryz.underlying5 Tryz.underlying9 (fun j hj => ?_)
    have := hc j (u8v l[j]) (by simp [List.getElem?_eq_getElem hj])
    rw [Addr.add_lit, Nat.zero_add]
    exact this
/-- What the loop over a string's bytes keeps: l1 is what was left at the string's first byte, b1 whether there was a fault then. -/
structure QI (rb : Nat) (s : ByteArray) (l1 : Bytes) (b1 : Bool) (a1 : Nat) (acc : Bytes) (p : Nat) (bd : Bool) : Prop where
  was : b1 = true → bd = true
  good : b1 = false → bd = false → Read l1 acc (s.data.toList.drop p)
  bad : b1 = false → bd = true → chars l1 = none
  len : acc.length ≤ p
theorem QI.start {rb : Nat} {s : ByteArray} {a1 : Nat} {b1 : Bool} : QI rb s (s.data.toList.drop a1) b1 a1 [] a1 b1 := ⟨id, fun _ _ => Read.start _, fun h h' => (by rw [h] at h'; cases h'), Nat.zero_le _⟩
section
variable {rb : Nat} {s : ByteArray} {l1 : Bytes} {b1 : Bool} {a1 : Nat} {acc : Bytes} {p : Nat} {bd : Bool}
theorem QI.plain (h : QI rb s l1 b1 a1 acc p bd) (hc : isPlain (seen s p bd) = true) : QI rb s l1 b1 a1 (acc ++ [seen s p bd]) (p + 1) bd := by
  have hne : seen s p bd ≠ 0 := by intro e; rw [e] at hc; revert hc; decide
  obtain ⟨h1, h2, h3⟩ := seen_drop (s := s) (a := p) (bad := bd) _ hne rfl
  refine ⟨h.was, fun hb _ => (h.good hb h1).plain h3 hc, fun hb hd => (by rw [h1] at hd; cases hd), ?_⟩
  have := h.len
  simp; omega
theorem QI.esc (h : QI rb s l1 b1 a1 acc p bd) (hc : seen s p bd = 92) (hm : meant (seen s (p + 1) bd) ≠ 0) : QI rb s l1 b1 a1 (acc ++ [meant (seen s (p + 1) bd)]) (p + 2) bd := by
  obtain ⟨h1, h2, h3⟩ := seen_drop (s := s) (a := p) (bad := bd) 92 (by decide) hc
  have hne : seen s (p + 1) bd ≠ 0 := by intro e; rw [e] at hm; revert hm; decide
  obtain ⟨_, h5, h6⟩ := seen_drop (s := s) (a := p + 1) (bad := bd) _ hne rfl
  rw [h6] at h3
  refine ⟨h.was, fun hb _ => (h.good hb h1).esc h3 hm, fun hb hd => (by rw [h1] at hd; cases hd), ?_⟩
  have := h.len
  simp; omega
theorem QI.fail (h : QI rb s l1 b1 a1 acc p bd) (hc : seen s p bd = 92) (hm : meant (seen s (p + 1) bd) = 0) : QI rb s l1 b1 a1 (acc ++ [meant (seen s (p + 1) bd)]) (p + 1) true := by
  obtain ⟨h1, h2, h3⟩ := seen_drop (s := s) (a := p) (bad := bd) 92 (by decide) hc
  refine ⟨fun _ => rfl, fun _ hd => (by cases hd), fun hb _ => ?_, ?_⟩
  · have hr := h.good hb h1
    rcases Nat.lt_or_ge (p + 1) s.data.toList.length with hl | hl
    · have e := List.drop_eq_getElem_cons hl
      rw [e] at h3
      refine hr.bad h3 ?_
      subst h1
      have e2 : seen s (p + 1) false = s.data.toList[p + 1] := by
        simp only [seen, List.getD_eq_getElem?_getD, List.getElem?_eq_getElem hl]; rfl
      rw [← e2]; exact hm
    · rw [List.drop_eq_nil_of_le hl] at h3
      exact hr.cut h3
  · have := h.len
    simp; omega
/-- Behind the loop: the mark that ends the string. -/
theorem QI.fin (h : QI rb s l1 b1 a1 acc p bd) (hc : isPlain (seen s p bd) = false) (h92 : seen s p bd ≠ 92) (hb : b1 = false) (hd : bd = false) : chars l1 = (want 34 (s.data.toList.drop p)).map fun r => (acc, r) := by
  refine (h.good hb hd).fin fun c r hl => ?_
  subst hd
  have hlt : p < s.data.toList.length := by
    rcases Nat.lt_or_ge p s.data.toList.length with h' | h'
    · exact h'
    · rw [List.drop_eq_nil_of_le h'] at hl; cases hl
  have e2 : seen s p false = c := by
    rw [List.drop_eq_getElem_cons hlt] at hl
    injection hl with hl _
    simp only [seen, List.getD_eq_getElem?_getD, List.getElem?_eq_getElem hlt]
    exact hl
  rw [e2] at hc h92
  exact ⟨hc, h92⟩
end
end Go.Proofs.YtfngjfnakokgmaaGreatDoor.Txt
