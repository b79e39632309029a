/- Replies (P6), plainly, on lists of bytes: the document's machine, fed byte by byte; the wire that the program pulls bytes from; and that pulling is feeding. -/
import Derived.ProofKit
namespace Go.Proofs.YtmodongnganbfaaGreatDoor.Rep
abbrev Bytes := List UInt8
def isDigit (c : UInt8) : Bool := decide (48 ≤ c.toNat) && decide (c.toNat ≤ 57)
def isText (c : UInt8) : Bool := decide (32 ≤ c.toNat) && decide (c.toNat ≤ 126)
def isSmall (c : UInt8) : Bool := decide (97 ≤ c.toNat) && decide (c.toNat ≤ 122)
def isCapital (c : UInt8) : Bool := decide (65 ≤ c.toNat) && decide (c.toNat ≤ 90)
def isNameByte (c : UInt8) : Bool := isSmall c || isCapital c || isDigit c || c == 45
def small (c : UInt8) : UInt8 := if isCapital c then c + 32 else c
def smaller (l : Bytes) : Bytes := l.map small
def trimmed (l : Bytes) : Bytes := ((l.dropWhile (· == 32)).reverse.dropWhile (· == 32)).reverse
/-- A hexadecimal digit's value. -/
def hexOf (c : UInt8) : Option Nat := if isDigit c then some (c.toNat - 48) else if decide (97 ≤ c.toNat) && decide (c.toNat ≤ 102) then some (c.toNat - 87) else if decide (65 ≤ c.toNat) && decide (c.toNat ≤ 70) then some (c.toNat - 55) else none
def numOf (l : Bytes) : Nat := l.foldl (fun n c => 10 * n + (c.toNat - 48)) 0
/-- One to nine digits. -/
def few (l : Bytes) : Option Nat := if l.length != 0 && decide (l.length ≤ 9) && l.all isDigit then some (numOf l) else none
/-- What stands ahead of the first c, and behind it. -/
def cutAt (c : UInt8) : Bytes → Bytes × Option Bytes
  | [] => ([], none)
  | d :: l => if d = c then ([], some l) else (d :: (cutAt c l).1, (cutAt c l).2)
structure Span where
  first : Nat
  last : Nat
  total : Nat
/-- "bytes A-B/T". -/
def span (l : Bytes) : Option Span :=
  if l.take 6 = [98, 121, 116, 101, 115, 32] then
    match cutAt 47 (l.drop 6) with
    | (b, some t) =>
      match cutAt 45 b with
      | (x, some y) =>
        match few x, few y, few t with
        | some a, some b, some t => if a ≤ b ∧ b < t then some ⟨a, b, t⟩ else none
        | _, _, _ => none
      | _ => none
    | _ => none
  else none
/-- The document's machine, while it is not broken. -/
structure Mc where
  at' : Nat
  thn : Nat
  used : Nat
  start : Nat
  name : Bytes
  value : Bytes
  fields : List (Bytes × Bytes)
  headed : Bool
  tail : Bool
  size : Nat
  all : Nat
  span : Option Span
  status : Nat
  tag : Bytes
  body : Bytes
def Mc.new : Mc := ⟨0, 0, 0, 0, [], [], [], false, false, 0, 0, none, 0, [], []⟩
def named (n : Bytes) (fs : List (Bytes × Bytes)) : List Bytes := (fs.filter fun f => f.1 = n).map (·.2)
def nLength : Bytes := [99, 111, 110, 116, 101, 110, 116, 45, 108, 101, 110, 103, 116, 104]
def nCoding : Bytes := [116, 114, 97, 110, 115, 102, 101, 114, 45, 101, 110, 99, 111, 100, 105, 110, 103]
def nTag : Bytes := [101, 116, 97, 103]
def nRange : Bytes := [99, 111, 110, 116, 101, 110, 116, 45, 114, 97, 110, 103, 101]
def chunked : Bytes := [99, 104, 117, 110, 107, 101, 100]
/-- What a head tells: its length, whether it is chunked, its tag, its range. -/
structure Head where
  length : Option Nat
  chunked : Bool
  tag : Bytes
  span : Option Span
/-- At most one, and then it must be right. -/
def one {α : Type} (f : Bytes → Option α) : List Bytes → Option (Option α)
  | [] => some none
  | [v] => (f v).map some
  | _ => none
def headOf (fs : List (Bytes × Bytes)) : Option Head :=
  match one few (named nLength fs), one (fun v => if smaller v = Rep.chunked then some () else none) (named nCoding fs), one some (named nTag fs), one Rep.span (named nRange fs) with
  | some n, some k, some g, some h => some ⟨n, k.isSome, g.getD [], h⟩
  | _, _, _, _ => none
def hasBody (status : Nat) : Bool := status == 200 || status == 206
/-- May a head stand with its status and the limit? -/
def fits (status limit : Nat) (h : Head) : Bool :=
  !(h.length.isSome && h.chunked) && !(status == 206 && h.span.isNone) && !(hasBody status && (decide (limit < h.length.getD 0) || decide (limit < (h.span.map (·.total)).getD 0)))
/-- A body is complete. -/
def done (m : Mc) : Option Mc := if m.status == 206 && decide (m.body.length ≠ (m.span.map fun s => s.last - s.first + 1).getD 0) then none else some { m with at' := 14 }
def headed (limit : Nat) (m : Mc) : Option Mc :=
  match headOf m.fields with
  | none => none
  | some h =>
    if fits m.status limit h then
      let m' := { m with headed := true, tag := h.tag, span := h.span }
      if !hasBody m.status then some { m' with at' := 14 }
      else if h.chunked then some { m' with at' := 8, used := 0, start := 0, size := 0 }
      else match h.length with
        | some 0 => done m'
        | some n => some { m' with at' := 12, size := n }
        | none => some { m' with at' := 13 }
    else none
def sized (limit : Nat) (m : Mc) : Option Mc :=
  if limit < m.all + m.size then none
  else if m.size = 0 then some { m with all := m.all + m.size, at' := 5, tail := true }
  else some { m with all := m.all + m.size, at' := 10 }
def lineEnd (limit : Nat) (m : Mc) : Option Mc :=
  if m.thn = 5 then some { m with at' := 5 }
  else if m.thn = 8 then some { m with at' := 8, start := 0, size := 0 }
  else if m.thn = 10 then sized limit m
  else if m.thn = 14 then (if m.tail then done m else headed limit m)
  else some m
def protocol : Bytes := [72, 84, 84, 80, 47, 49, 46, 49, 32]
def first (m : Mc) (c : UInt8) : Option Mc :=
  if m.at' = 0 then
    if protocol[m.start]? = some c then some (if m.start + 1 = 9 then { m with at' := 1, start := 0 } else { m with start := m.start + 1 }) else none
  else if m.at' = 1 then
    if isDigit c && !(m.start == 0 && (decide (c.toNat < 49) || decide (53 < c.toNat))) then
      some (if m.start + 1 = 3 then { m with status := 10 * m.status + (c.toNat - 48), start := m.start + 1, at' := 2 } else { m with status := 10 * m.status + (c.toNat - 48), start := m.start + 1 })
    else none
  else if c = 32 then some { m with at' := 3 } else none
def line (m : Mc) (c : UInt8) : Option Mc :=
  if m.at' = 5 ∧ c = 13 then some { m with at' := 4, thn := 14 }
  else if m.at' = 5 ∧ isNameByte c then some { m with at' := 6, name := [c] }
  else if m.at' = 6 ∧ isNameByte c then some { m with name := m.name ++ [c] }
  else if m.at' = 6 ∧ c = 58 then some { m with at' := 7, value := [] }
  else if m.at' = 7 ∧ c = 13 then some (if m.tail then { m with at' := 4, thn := 5 } else { m with at' := 4, thn := 5, fields := m.fields ++ [(smaller m.name, trimmed m.value)] })
  else if m.at' = 7 ∧ isText c then some { m with value := m.value ++ [c] }
  else if m.at' = 3 ∧ c = 13 then some { m with at' := 4, thn := 5 }
  else if m.at' = 9 ∧ c = 13 then some { m with at' := 4, thn := 10 }
  else if (m.at' = 3 ∨ m.at' = 9) ∧ isText c then some m
  else none
def sizeByte (m : Mc) (c : UInt8) : Option Mc :=
  if (hexOf c).isSome ∧ m.start < 6 then some { m with size := 16 * m.size + (hexOf c).getD 0, start := m.start + 1 }
  else if 0 < m.start ∧ c = 59 then some { m with at' := 9 }
  else if 0 < m.start ∧ c = 13 then some { m with at' := 4, thn := 10 }
  else none
def inBody (limit : Nat) (m : Mc) (c : UInt8) : Option Mc :=
  if m.at' = 10 then some (if m.size - 1 = 0 then { m with body := m.body ++ [c], size := m.size - 1, at' := 11 } else { m with body := m.body ++ [c], size := m.size - 1 })
  else if m.at' = 11 then (if c = 13 then some { m with at' := 4, thn := 8 } else none)
  else if m.at' = 12 then (if m.size - 1 = 0 then done { m with body := m.body ++ [c], size := m.size - 1 } else some { m with body := m.body ++ [c], size := m.size - 1 })
  else if m.at' = 13 then (if limit ≤ m.body.length then none else some { m with body := m.body ++ [c] })
  else some m
def counts (m : Mc) : Bool := decide (m.at' ≤ 9) && !(m.at' == 4 && m.thn == 8)
/-- One byte more; none: broken. -/
def feed (limit : Nat) (m : Mc) (c : UInt8) : Option Mc :=
  if counts m ∧ 400 ≤ m.used then none
  else
    let m := if counts m then { m with used := m.used + 1 } else m
    if m.at' ≤ 2 then first m c
    else if m.at' = 4 then (if c = 10 then lineEnd limit m else none)
    else if m.at' = 8 then sizeByte m c
    else if m.at' ≤ 9 then line m c
    else inBody limit m c
structure Event where
  ticks : Int
  what : Int
  data : Bytes
/-- The wire: what has come and is not taken; what is to come; the clock. -/
structure Wire where
  refused : Bool
  events : List Event
  rest : Bytes
  deadline : Int
  ticks : Int
/-- What comes of a dial: where the machine is (none: broken), and the ticks. -/
structure Res where
  mc : Option Mc
  ticks : Int
/-- All bytes of a piece, as far as the machine wants them. -/
def eat (limit : Nat) : Mc → Bytes → Option Mc
  | m, [] => some m
  | m, c :: l => if m.at' = 14 then some m else (feed limit m c).bind fun m' => eat limit m' l
/-- The document's Read from here on. -/
def drive (limit : Nat) (deadline : Int) : Mc → Int → List Event → Res
  | m, t, [] => ⟨some m, t⟩
  | m, t, e :: es =>
    if deadline - t < max e.ticks 0 then ⟨some m, deadline⟩
    else
      let t := t + max e.ticks 0
      if e.what = 3 ∧ m.at' = 13 then ⟨done m, t⟩
      else if e.what ≠ 1 then ⟨some m, t⟩
      else match eat limit m e.data with
        | none => ⟨none, t⟩
        | some m' => if m'.at' = 14 then ⟨some m', t⟩ else drive limit deadline m' t es
/-- The document's Read of a wire, with the machine at m. -/
def goOn (limit : Nat) (m : Mc) (w : Wire) : Res :=
  match eat limit m w.rest with
  | none => ⟨none, w.ticks⟩
  | some m' => if m'.at' = 14 then ⟨some m', w.ticks⟩ else if w.refused then ⟨some m', w.ticks⟩ else drive limit w.deadline m' w.ticks w.events
/-- Why no byte comes. -/
inductive Why
  | closed
  | again
/-- The next byte, or why there is none; and the wire then. -/
def pull (refused : Bool) (deadline : Int) : Int → List Event → (Except Why (UInt8 × Bytes)) × Int × List Event
  | t, [] => (.error .again, t, [])
  | t, e :: es =>
    if refused then (.error .again, t, e :: es)
    else if deadline - t < max e.ticks 0 then (.error .again, deadline, es)
    else if e.what = 1 then
      match e.data with
      | [] => pull refused deadline (t + max e.ticks 0) es
      | c :: r => (.ok (c, r), t + max e.ticks 0, es)
    else if e.what = 3 then (.error .closed, t + max e.ticks 0, es)
    else (.error .again, t + max e.ticks 0, es)
def take (w : Wire) : (Except Why UInt8) × Wire :=
  match w.rest with
  | c :: r => (.ok c, { w with rest := r })
  | [] =>
    match pull w.refused w.deadline w.ticks w.events with
    | (.ok (c, r), t, es) => (.ok c, { w with rest := r, ticks := t, events := es })
    | (.error e, t, es) => (.error e, { w with rest := [], ticks := t, events := es })
theorem eat_cons {limit : Nat} {m : Mc} {c : UInt8} {l : Bytes} (h : m.at' ≠ 14) : eat limit m (c :: l) = (feed limit m c).bind fun m' => eat limit m' l := by
  rw [eat, if_neg h]
theorem eat_end {limit : Nat} {m : Mc} (l : Bytes) (h : m.at' = 14) : eat limit m l = some m := by
  cases l with
  | nil => rfl
  | cons c l => rw [eat, if_pos h]
theorem drive_cons (limit : Nat) (deadline : Int) (m : Mc) (t : Int) (e : Event) (es : List Event) : drive limit deadline m t (e :: es) =
    if deadline - t < max e.ticks 0 then ⟨some m, deadline⟩
    else if e.what = 3 ∧ m.at' = 13 then ⟨done m, t + max e.ticks 0⟩
    else if e.what ≠ 1 then ⟨some m, t + max e.ticks 0⟩
    else match eat limit m e.data with
      | none => ⟨none, t + max e.ticks 0⟩
      | some m' => if m'.at' = 14 then ⟨some m', t + max e.ticks 0⟩ else drive limit deadline m' (t + max e.ticks 0) es := rfl
/-- Where a byte comes, the document feeds it. -/
theorem drive_ok {limit : Nat} {deadline : Int} {m : Mc} (hm : m.at' ≠ 14) : ∀ (es : List Event) (t : Int) {c : UInt8} {r : Bytes} {t' : Int} {es' : List Event}, pull false deadline t es = (.ok (c, r), t', es') →
    drive limit deadline m t es = match eat limit m (c :: r) with
      | none => ⟨none, t'⟩
      | some m' => if m'.at' = 14 then ⟨some m', t'⟩ else drive limit deadline m' t' es'
  | [], t, c, r, t', es', h => by simp [pull] at h
  | e :: es, t, c, r, t', es', h => by
    unfold pull at h
    rw [if_neg (by decide)] at h
    rw [drive_cons limit deadline m t e es]
    by_cases h1 : deadline - t < max e.ticks 0
    · rw [if_pos h1] at h; simp at h
    · rw [if_neg h1] at h ⊢
      by_cases h2 : e.what = 1
      · rw [if_pos h2] at h
        rw [if_neg (by rw [h2]; omega), if_neg (by simp [h2])]
        cases hd : e.data with
        | nil =>
          rw [hd] at h
          simp only [] at h
          rw [eat]
          simp only []
          rw [if_neg hm]
          exact drive_ok hm es _ h
        | cons d r' =>
          rw [hd] at h
          simp only [Prod.mk.injEq, Except.ok.injEq] at h
          obtain ⟨⟨rfl, rfl⟩, rfl, rfl⟩ := h
          rfl
      · rw [if_neg h2] at h
        by_cases h3 : e.what = 3
        · rw [if_pos h3] at h; simp at h
        · rw [if_neg h3] at h; simp at h
/-- Where none comes, the document tells what there is. -/
theorem drive_err {limit : Nat} {deadline : Int} {m : Mc} (hm : m.at' ≠ 14) : ∀ (es : List Event) (t : Int) {y : Why} {t' : Int} {es' : List Event}, pull false deadline t es = (.error y, t', es') →
    drive limit deadline m t es = ⟨(match y with | .closed => if m.at' = 13 then done m else some m | .again => some m), t'⟩
  | [], t, y, t', es', h => by
    simp only [pull, Prod.mk.injEq, Except.error.injEq] at h
    obtain ⟨rfl, rfl, rfl⟩ := h
    rfl
  | e :: es, t, y, t', es', h => by
    unfold pull at h
    rw [if_neg (by decide)] at h
    rw [drive_cons limit deadline m t e es]
    by_cases h1 : deadline - t < max e.ticks 0
    · rw [if_pos h1] at h ⊢
      simp only [Prod.mk.injEq, Except.error.injEq] at h
      obtain ⟨rfl, rfl, rfl⟩ := h
      rfl
    · rw [if_neg h1] at h ⊢
      by_cases h2 : e.what = 1
      · rw [if_pos h2] at h
        rw [if_neg (by rw [h2]; omega), if_neg (by simp [h2])]
        cases hd : e.data with
        | nil =>
          rw [hd] at h
          simp only [] at h
          rw [eat]
          simp only []
          rw [if_neg hm]
          exact drive_err hm es _ h
        | cons d r' => rw [hd] at h; simp at h
      · rw [if_neg h2] at h
        by_cases h3 : e.what = 3
        · rw [if_pos h3] at h
          simp only [Prod.mk.injEq, Except.error.injEq] at h
          obtain ⟨rfl, rfl, rfl⟩ := h
          by_cases h4 : m.at' = 13
          · rw [if_pos ⟨h3, h4⟩, if_pos h4]
          · rw [if_neg (by intro h; exact h4 h.2), if_pos h2, if_neg h4]
        · rw [if_neg h3] at h
          simp only [Prod.mk.injEq, Except.error.injEq] at h
          obtain ⟨rfl, rfl, rfl⟩ := h
          rw [if_neg (by intro h; exact h3 h.1), if_pos h2]
/-- What comes where no byte does. -/
def ended (m : Mc) : Why → Option Mc
  | .closed => if m.at' = 13 then done m else some m
  | .again => some m
theorem goOn_ok {limit : Nat} {m : Mc} {w w' : Wire} {c : UInt8} (hm : m.at' ≠ 14) (h : take w = (.ok c, w')) : goOn limit m w = match feed limit m c with | none => ⟨none, w'.ticks⟩ | some m' => goOn limit m' w' := by
  unfold take at h
  cases hr : w.rest with
  | cons d r =>
    rw [hr] at h
    simp only [Prod.mk.injEq, Except.ok.injEq] at h
    obtain ⟨rfl, rfl⟩ := h
    unfold goOn
    rw [hr, eat_cons hm]
    cases feed limit m d with
    | none => rfl
    | some m' => rfl
  | nil =>
    rw [hr] at h
    simp only [] at h
    rcases hp : pull w.refused w.deadline w.ticks w.events with ⟨x, t, es⟩
    rw [hp] at h
    cases x with
    | error y => simp at h
    | ok p =>
      obtain ⟨d, r⟩ := p
      simp only [Prod.mk.injEq, Except.ok.injEq] at h
      obtain ⟨rfl, rfl⟩ := h
      cases hf : w.refused with
      | true =>
        rw [hf] at hp
        cases he : w.events with
        | nil => rw [he] at hp; simp [pull] at hp
        | cons e es' => rw [he] at hp; simp [pull] at hp
      | false =>
        rw [hf] at hp
        have hd := drive_ok (limit := limit) hm w.events w.ticks hp
        have e1 : goOn limit m w = drive limit w.deadline m w.ticks w.events := by
          unfold goOn
          rw [hr, eat]
          simp only []
          rw [if_neg hm, hf]
          rfl
        rw [e1, hd, eat_cons hm]
        cases feed limit m d with
        | none => rfl
        | some m' =>
          show _ = goOn limit m' _
          unfold goOn
          simp only [Option.bind_some]
          rfl
theorem goOn_err {limit : Nat} {m : Mc} {w w' : Wire} {y : Why} (hm : m.at' ≠ 14) (h : take w = (.error y, w')) : goOn limit m w = ⟨ended m y, w'.ticks⟩ := by
  unfold take at h
  cases hr : w.rest with
  | cons d r => rw [hr] at h; simp at h
  | nil =>
    rw [hr] at h
    simp only [] at h
    rcases hp : pull w.refused w.deadline w.ticks w.events with ⟨x, t, es⟩
    rw [hp] at h
    cases x with
    | ok p => simp at h
    | error z =>
      simp only [Prod.mk.injEq, Except.error.injEq] at h
      obtain ⟨rfl, rfl⟩ := h
      have e0 : goOn limit m w = if w.refused then ⟨some m, w.ticks⟩ else drive limit w.deadline m w.ticks w.events := by
        unfold goOn
        rw [hr, eat]
        simp only []
        rw [if_neg hm]
      cases hf : w.refused with
      | true =>
        rw [hf] at hp
        have e2 : z = .again ∧ t = w.ticks := by
          cases he : w.events with
          | nil => rw [he] at hp; simp [pull] at hp; exact ⟨hp.1.symm, hp.2.1.symm⟩
          | cons e es' => rw [he] at hp; simp [pull] at hp; exact ⟨hp.1.symm, hp.2.1.symm⟩
        obtain ⟨rfl, rfl⟩ := e2
        rw [e0, hf]
        rfl
      | false =>
        rw [hf] at hp
        rw [e0, hf]
        show drive limit w.deadline m w.ticks w.events = _
        rw [drive_err (limit := limit) hm w.events w.ticks hp]
        cases z <;> rfl
theorem goOn_end {limit : Nat} {m : Mc} {w : Wire} (hm : m.at' = 14) : goOn limit m w = ⟨some m, w.ticks⟩ := by
  unfold goOn
  rw [eat_end _ hm]
  simp only []
  rw [if_pos hm]
/-- A head, field by field, as the program takes it up. -/
structure Note where
  length : Option Nat
  coded : Option Unit
  tag : Option Bytes
  span : Option Span
def Note.none : Note := ⟨Option.none, Option.none, Option.none, Option.none⟩
/-- A value that may come once. -/
def once {α : Type} (f : Bytes → Option α) (old : Option α) (v : Bytes) : Option (Option α) := if old.isSome then Option.none else (f v).map some
def coding (v : Bytes) : Option Unit := if smaller v = Rep.chunked then some () else Option.none
def note (s : Note) (f : Bytes × Bytes) : Option Note :=
  if f.1 = nLength then (once few s.length f.2).map fun x => { s with length := x }
  else if f.1 = nCoding then (once coding s.coded f.2).map fun x => { s with coded := x }
  else if f.1 = nTag then (once some s.tag f.2).map fun x => { s with tag := x }
  else if f.1 = nRange then (once Rep.span s.span f.2).map fun x => { s with span := x }
  else some s
def onceAll {α : Type} (f : Bytes → Option α) (old : Option α) : List Bytes → Option (Option α)
  | [] => some old
  | v :: l => (once f old v).bind fun x => onceAll f x l
theorem onceAll_some {α : Type} (f : Bytes → Option α) (x : α) (v : Bytes) (l : List Bytes) : onceAll f (some x) (v :: l) = Option.none := rfl
theorem onceAll_one {α : Type} (f : Bytes → Option α) (l : List Bytes) : onceAll f Option.none l = one f l := by
  match l with
  | [] => rfl
  | [v] =>
    show (once f Option.none v).bind _ = (f v).map some
    unfold once
    cases f v <;> rfl
  | v :: u :: l =>
    show (once f Option.none v).bind _ = Option.none
    unfold once
    cases f v <;> rfl
def notes (s : Note) : List (Bytes × Bytes) → Option Note
  | [] => some s
  | f :: fs => (note s f).bind fun s' => notes s' fs
def joinN (a : Option (Option Nat)) (b : Option (Option Unit)) (c : Option (Option Bytes)) (d : Option (Option Span)) : Option Note :=
  a.bind fun a => b.bind fun b => c.bind fun c => d.map fun d => ⟨a, b, c, d⟩
theorem named_cons_eq {n : Bytes} {f : Bytes × Bytes} (fs : List (Bytes × Bytes)) (h : f.1 = n) : named n (f :: fs) = f.2 :: named n fs := by simp [named, h]
theorem named_cons_ne {n : Bytes} {f : Bytes × Bytes} (fs : List (Bytes × Bytes)) (h : f.1 ≠ n) : named n (f :: fs) = named n fs := by simp [named, h]
theorem notes_all : ∀ (fs : List (Bytes × Bytes)) (s : Note), notes s fs = joinN (onceAll few s.length (named nLength fs)) (onceAll coding s.coded (named nCoding fs)) (onceAll some s.tag (named nTag fs)) (onceAll Rep.span s.span (named nRange fs))
  | [], s => rfl
  | f :: fs, s => by
    unfold notes note
    by_cases h1 : f.1 = nLength
    · rw [if_pos h1, named_cons_eq fs h1, named_cons_ne fs (by rw [h1]; decide), named_cons_ne fs (by rw [h1]; decide), named_cons_ne fs (by rw [h1]; decide), onceAll]
      cases once few s.length f.2 with
      | none => rfl
      | some x => exact notes_all fs _
    · rw [if_neg h1, named_cons_ne fs h1]
      by_cases h2 : f.1 = nCoding
      · rw [if_pos h2, named_cons_eq fs h2, named_cons_ne fs (by rw [h2]; decide), named_cons_ne fs (by rw [h2]; decide), onceAll]
        cases once coding s.coded f.2 with
        | none => cases onceAll few s.length (named nLength fs) <;> rfl
        | some x => exact notes_all fs _
      · rw [if_neg h2, named_cons_ne fs h2]
        by_cases h3 : f.1 = nTag
        · rw [if_pos h3, named_cons_eq fs h3, named_cons_ne fs (by rw [h3]; decide), onceAll]
          cases once some s.tag f.2 with
          | none => cases onceAll few s.length (named nLength fs) <;> cases onceAll coding s.coded (named nCoding fs) <;> rfl
          | some x => exact notes_all fs _
        · rw [if_neg h3, named_cons_ne fs h3]
          by_cases h4 : f.1 = nRange
          · rw [if_pos h4, named_cons_eq fs h4, onceAll]
            cases once Rep.span s.span f.2 with
            | none => cases onceAll few s.length (named nLength fs) <;> cases onceAll coding s.coded (named nCoding fs) <;> cases onceAll some s.tag (named nTag fs) <;> rfl
            | some x => exact notes_all fs _
          · rw [if_neg h4, named_cons_ne fs h4]
            exact notes_all fs s
def Note.head (s : Note) : Head := ⟨s.length, s.coded.isSome, s.tag.getD [], s.span⟩
/-- Field by field is the same as all at once. -/
theorem notes_head (fs : List (Bytes × Bytes)) : (notes Note.none fs).map Note.head = headOf fs := by
  rw [notes_all]
  show (joinN (onceAll few Option.none _) (onceAll coding Option.none _) (onceAll some Option.none _) (onceAll Rep.span Option.none _)).map _ = _
  rw [onceAll_one, onceAll_one, onceAll_one, onceAll_one]
  unfold headOf joinN
  show _ = match one few (named nLength fs), one coding (named nCoding fs), one some (named nTag fs), one Rep.span (named nRange fs) with
    | some n, some k, some g, some h => some (⟨n, k.isSome, g.getD [], h⟩ : Head)
    | _, _, _, _ => Option.none
  cases one few (named nLength fs) <;> cases one coding (named nCoding fs) <;> cases one some (named nTag fs) <;> cases one Rep.span (named nRange fs) <;> rfl
end Go.Proofs.YtmodongnganbfaaGreatDoor.Rep
