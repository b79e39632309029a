/- Replies: the document's machine within the lines of fields; fields in memory. -/
import Derived.Test.YtmodongnganbfaaGreatDoorRpJ
import Derived.Test.YtmodongnganbfaaGreatDoorShelf5
import Derived.Deep.RegionHeld3
import Derived.Deep.AppendLies
namespace Go.Proofs.YtmodongnganbfaaGreatDoor.Rep
open Go.RowKit Go.Proofs.YtmodongnganbfaaGreatDoor Go.Proofs.YtmodongnganbfaaGreatDoor.Sha Go.Proofs.YtmodongnganbfaaGreatDoor.Inf
def fcells (f : Bytes × Bytes) : List Value := [.string ⟨f.1.toArray⟩, .string ⟨f.2.toArray⟩]
def lowF (f : Bytes × Bytes) : Bytes × Bytes := (smaller f.1, f.2)
theorem fcells_len (fs : List (Bytes × Bytes)) : (fs.flatMap fcells).length = fs.length * 2 := by
  induction fs with
  | nil => rfl
  | cons f fs ih => rw [List.flatMap_cons, List.length_append, ih, List.length_cons]; show 2 + _ = _; omega
/-- The document's machine within the lines. -/
def lmm (m0 : Mc) (a th u : Nat) (nm vl : Bytes) (fs : List (Bytes × Bytes)) : Mc :=
  { m0 with at' := a, thn := th, used := u, name := nm, value := vl, fields := if m0.tail then m0.fields else m0.fields ++ fs.map lowF }
/-- Within a name, or ahead of it. -/
def nmm (m0 : Mc) (th u : Nat) (n0 nm vl : Bytes) (fs : List (Bytes × Bytes)) : Mc := if nm = [] then lmm m0 5 th u n0 vl fs else lmm m0 6 th u nm vl fs
theorem lmm_tells {m0 : Mc} {hd : Hd} {body : Bytes} (h : Tells m0 hd body) (a th u : Nat) (nm vl : Bytes) (fs : List (Bytes × Bytes)) : Tells (lmm m0 a th u nm vl fs) hd body := h.same rfl rfl rfl rfl rfl
theorem nmm_tells {m0 : Mc} {hd : Hd} {body : Bytes} (h : Tells m0 hd body) (th u : Nat) (n0 nm vl : Bytes) (fs : List (Bytes × Bytes)) : Tells (nmm m0 th u n0 nm vl fs) hd body := by
  unfold nmm
  split
  · exact lmm_tells h _ _ _ _ _ _
  · exact lmm_tells h _ _ _ _ _ _
theorem nmm_counts {m0 : Mc} {th u : Nat} {n0 nm vl : Bytes} {fs : List (Bytes × Bytes)} : counts (nmm m0 th u n0 nm vl fs) = true := by
  unfold nmm
  split <;> rfl
theorem nmm_used {m0 : Mc} {th u : Nat} {n0 nm vl : Bytes} {fs : List (Bytes × Bytes)} : (nmm m0 th u n0 nm vl fs).used = u := by
  unfold nmm
  split <;> rfl
theorem name_not13 {c : UInt8} (h : isNameByte c = true) : c ≠ 13 := by intro e; rw [e] at h; revert h; decide
theorem name_not58 {c : UInt8} (h : isNameByte c = true) : c ≠ 58 := by intro e; rw [e] at h; revert h; decide
theorem lmm_cr {limit : Nat} (m0 : Mc) (th u : Nat) (nm vl : Bytes) (fs : List (Bytes × Bytes)) (hu : u < 400) : feed limit (lmm m0 5 th u nm vl fs) 13 = some (lmm m0 4 14 (u + 1) nm vl fs) := by
  rw [feed_line (M := lmm m0 5 th u nm vl fs) (.inr (.inl rfl)) hu]
  show (if (5 : Nat) = 5 ∧ (13 : UInt8) = 13 then _ else _) = _
  rw [if_pos ⟨rfl, rfl⟩]
  rfl
theorem nmm_name {limit : Nat} (m0 : Mc) (th u : Nat) (n0 nm vl : Bytes) (fs : List (Bytes × Bytes)) {c : UInt8} (hc : isNameByte c = true) (hu : u < 400) : feed limit (nmm m0 th u n0 nm vl fs) c = some (nmm m0 th (u + 1) n0 (nm ++ [c]) vl fs) := by
  have h13 := name_not13 hc
  have hn : nm ++ [c] ≠ [] := by simp
  unfold nmm
  rw [if_neg hn]
  by_cases h : nm = []
  · rw [if_pos h, feed_line (M := lmm m0 5 th u n0 vl fs) (.inr (.inl rfl)) hu]
    show (if (5 : Nat) = 5 ∧ c = 13 then _ else if (5 : Nat) = 5 ∧ isNameByte c = true then _ else _) = _
    rw [if_neg (by intro e; exact h13 e.2), if_pos ⟨rfl, hc⟩, h]
    rfl
  · rw [if_neg h, feed_line (M := lmm m0 6 th u nm vl fs) (.inr (.inr (.inl rfl))) hu]
    show (if (6 : Nat) = 5 ∧ c = 13 then _ else if (6 : Nat) = 5 ∧ isNameByte c = true then _ else if (6 : Nat) = 6 ∧ isNameByte c = true then _ else _) = _
    rw [if_neg (by intro e; exact absurd e.1 (by decide)), if_neg (by intro e; exact absurd e.1 (by decide)), if_pos ⟨rfl, hc⟩]
    rfl
theorem nmm_no {limit : Nat} (m0 : Mc) (th u : Nat) (n0 nm vl : Bytes) (fs : List (Bytes × Bytes)) {c : UInt8} (hc : isNameByte c = false) (h58 : ¬ (c = 58 ∧ nm ≠ [])) (h13 : nm = [] → c ≠ 13) : feed limit (nmm m0 th u n0 nm vl fs) c = none := by
  by_cases hu : u < 400
  · unfold nmm
    have hc' : ¬ isNameByte c = true := by rw [hc]; decide
    by_cases h : nm = []
    · have h13 := h13 h
      rw [if_pos h, feed_line (M := lmm m0 5 th u n0 vl fs) (.inr (.inl rfl)) hu]
      simp [line, lmm, h13, hc']
    · have h58 : c ≠ 58 := fun e => h58 ⟨e, h⟩
      rw [if_neg h, feed_line (M := lmm m0 6 th u nm vl fs) (.inr (.inr (.inl rfl))) hu]
      simp [line, lmm, h58, hc']
  · exact feed_full c nmm_counts (by rw [nmm_used]; omega)
theorem nmm_colon {limit : Nat} (m0 : Mc) (th u : Nat) (n0 nm vl : Bytes) (fs : List (Bytes × Bytes)) (h : nm ≠ []) (hu : u < 400) : feed limit (nmm m0 th u n0 nm vl fs) 58 = some (lmm m0 7 th (u + 1) nm [] fs) := by
  unfold nmm
  rw [if_neg h, feed_line (M := lmm m0 6 th u nm vl fs) (.inr (.inr (.inl rfl))) hu]
  have hb : isNameByte 58 = false := by decide
  simp [line, lmm, hb]
theorem lmm_lf {limit : Nat} (m0 : Mc) (u : Nat) (nm vl : Bytes) (fs : List (Bytes × Bytes)) (hu : u < 400) : feed limit (lmm m0 4 5 u nm vl fs) 10 = some (lmm m0 5 5 (u + 1) nm vl fs) := by
  unfold feed
  rw [if_neg (by intro h; have : 400 ≤ u := h.2; omega)]
  rfl
/-- The rest of a field's line. -/
theorem rest_value {limit : Nat} {p : Ps} (m0 : Mc) (th u : Nat) (nm : Bytes) (fs : List (Bytes × Bytes)) (hu : u + p.room = 400) (hT : Tells m0 p.hd p.body) :
    RestM limit p (fun l => lmm m0 7 th (u + l.length) nm l fs) (fun l => lmm m0 4 5 (u + l.length + 1) nm l (fs ++ [(nm, trimmed l)])) where
  cnt := fun l => rfl
  cntc := fun l => rfl
  used := fun l => by show u + l.length + p.room = _; omega
  usedc := fun l => by show u + l.length + 1 + p.room = _; omega
  tells := fun l => lmm_tells hT _ _ _ _ _ _
  tellsc := fun l => lmm_tells hT _ _ _ _ _ _
  text := fun l c hc hlt => by
    have h13 : c ≠ 13 := by intro e; rw [e] at hc; revert hc; decide
    rw [feed_line (M := lmm m0 7 th (u + l.length) nm l fs) (.inr (.inr (.inr (.inl rfl)))) hlt]
    simp [line, lmm, h13, hc, Nat.add_assoc]
  cr := fun l hlt => by
    rw [feed_line (M := lmm m0 7 th (u + l.length) nm l fs) (.inr (.inr (.inr (.inl rfl)))) hlt]
    have e : line { lmm m0 7 th (u + l.length) nm l fs with used := (lmm m0 7 th (u + l.length) nm l fs).used + 1 } 13 = some (if m0.tail then lmm m0 4 5 (u + l.length + 1) nm l fs else { lmm m0 4 5 (u + l.length + 1) nm l fs with fields := (lmm m0 4 5 (u + l.length + 1) nm l fs).fields ++ [(smaller nm, trimmed l)] }) := rfl
    rw [e]
    cases ht : m0.tail with
    | true => simp [lmm, ht]
    | false => simp [lmm, ht, lowF]
  no := fun l c hc h13 => by
    by_cases hlt : u + l.length < 400
    · rw [feed_line (M := lmm m0 7 th (u + l.length) nm l fs) (.inr (.inr (.inr (.inl rfl)))) hlt]
      simp [line, lmm, h13, hc]
    · exact feed_full c rfl (by show 400 ≤ u + l.length; omega)
  lf := fun l c hc => feed_lf_no rfl hc
theorem trimR_cons (a : UInt8) (t : Bytes) : Lib.trimRightB (a :: t) 32 = if Lib.trimRightB t 32 = [] ∧ a = 32 then [] else a :: Lib.trimRightB t 32 := by
  unfold Lib.trimRightB
  rw [List.reverse_cons, List.dropWhile_append]
  by_cases h : (List.dropWhile (fun x => x == 32) t.reverse) = []
  · rw [h]
    by_cases ha : a = 32 <;> simp [ha]
  · have : (List.dropWhile (fun x => x == 32) t.reverse).isEmpty = false := by cases hh : List.dropWhile (fun x => x == 32) t.reverse with
      | nil => exact absurd hh h
      | cons _ _ => rfl
    rw [this]
    simp [h]
theorem trimR_nil_left (t : Bytes) (h : Lib.trimRightB t 32 = []) : t.dropWhile (fun x => x == 32) = [] := by
  induction t with
  | nil => rfl
  | cons a t ih =>
    rw [trimR_cons] at h
    by_cases q : Lib.trimRightB t 32 = [] ∧ a = 32
    · rw [List.dropWhile_cons, if_pos (by simp [q.2])]; exact ih q.1
    · rw [if_neg q] at h; cases h
theorem trim_is : ∀ l : Bytes, Lib.trimB l 32 = trimmed l
  | [] => rfl
  | a :: t => by
    have ih := trim_is t
    unfold Lib.trimB Lib.trimLeftB at ih ⊢
    unfold trimmed at ih ⊢
    rw [trimR_cons]
    by_cases ha : a = 32
    · have e1 : (a :: t).dropWhile (fun x => x == 32) = t.dropWhile (fun x => x == 32) := by rw [List.dropWhile_cons]; simp [ha]
      rw [e1]
      by_cases q : Lib.trimRightB t 32 = [] ∧ a = 32
      · rw [if_pos q, trimR_nil_left t q.1]; rfl
      · rw [if_neg q, ← ih, List.dropWhile_cons]; simp [ha]
    · have e1 : (a :: t).dropWhile (fun x => x == 32) = a :: t := by rw [List.dropWhile_cons]; simp [ha]
      rw [if_neg (fun q => ha q.2), e1, List.dropWhile_cons]
      have e2 := trimR_cons a t
      rw [if_neg (fun q => ha q.2)] at e2
      unfold Lib.trimRightB at e2
      rw [e2]
      simp [ha]
      rfl
theorem trimmed_mem {l : Bytes} {c : UInt8} (h : c ∈ trimmed l) : c ∈ l := by
  unfold trimmed at h
  rw [List.mem_reverse] at h
  have h1 := (List.dropWhile_sublist _).subset h
  rw [List.mem_reverse] at h1
  exact (List.dropWhile_sublist _).subset h1
theorem trimmed_len (l : Bytes) : (trimmed l).length ≤ l.length := by
  unfold trimmed
  rw [List.length_reverse]
  refine Nat.le_trans (List.dropWhile_sublist _).length_le ?_
  rw [List.length_reverse]
  exact (List.dropWhile_sublist _).length_le
theorem only_grown {S : Nat → Prop} {w w' : World} {row : Option Nat} (h : w.grownBy w' row) (hs : ∀ k, row = some k → S k) : Only S w w' :=
  ⟨h.os, h.tape, h.output, h.size, fun k hk hn => h.block k hk (fun e => hn (hs k e.symm))⟩
theorem row_only {S : Nat → Prop} {w w' : World} {base : Nat} {e : TypeId} {size : Nat} {v : Value} {n : Nat} {xs : List Value} (h : w.ownsRow base e size v n xs) (hk : Only S w w') (hs : ∀ g, v.ownBlock = some g → ¬ S g) : w'.ownsRow base e size v n xs := by
  refine ⟨h.1, ?_⟩
  rcases h.2 with hn | ⟨g, cap, cur, rfl, hb, hg, rest⟩
  · exact .inl hn
  · refine .inr ⟨g, cap, cur, rfl, hb, ?_, rest⟩
    rw [hk.block g (Array.getElem?_eq_some_iff.1 hg).1 (hs g rfl)]
    exact hg
theorem fieldInfo : (Tryz.prog.info? 88).map (fun i => (i.zero, i.size, i.bytes)) = some (some (.agg #[.string ⟨#[]⟩, .string ⟨#[]⟩]), 2, 32) := by kernel_rfl
/-- What restOfLine leaves, told by its text. -/
def RestS (ad : Nat → Addr) (pm limit : Nat) (R : Res) (p : Ps) (mc : Bytes → Mc) (L : Bytes) (w' : World) : Prop :=
  (∃ W, L.length + 2 ≤ p.room ∧ PM pm limit { p with wire := W, room := p.room - L.length - 2 } .nilIface w' ∧ After limit R (mc L) 10 W ∧ ∀ c ∈ L, isText c = true) ∨
  (∃ tf vf W r, PM pm limit { p with wire := W, room := r } (.iface tf vf) w' ∧ Faulted ad pm R { p with wire := W, room := r } (.iface tf vf) w')
theorem RestE.str {ad : Nat → Addr} {pm limit : Nat} {R : Res} {p : Ps} {mc : Bytes → Mc} {e : Ending} {w' : World} (h : RestE ad pm limit R p mc e w') (hr : p.room ≤ 400) : ∃ sx : ByteArray, e = .returned (.string sx) ∧ sx.size ≤ 400 ∧ RestS ad pm limit R p mc sx.data.toList w' := by
  rcases h with ⟨L, W, e1, hl, hP, hA, ht⟩ | ⟨s, tf, vf, W, r, e1, hs, hP, hF⟩
  · exact ⟨⟨L.toArray⟩, e1, by show L.toArray.size ≤ 400; simp; omega, .inl ⟨W, hl, hP, hA, ht⟩⟩
  · exact ⟨s, e1, hs, .inr ⟨tf, vf, W, r, hP, hF⟩⟩
end Go.Proofs.YtmodongnganbfaaGreatDoor.Rep
