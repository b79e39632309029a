/- SHA-256 as plain functions on numbers and lists of bytes. -/
import Derived.Test.YtpboclnfjpofjaaDoorProg
namespace Go.Proofs.YtpboclnfjpofjaaDoor.Sha

/-- A word of 32 bits, n bits to the right, round and round. -/
def ror (x n : Nat) : Nat := (x / 2 ^ n) ||| (x * 2 ^ (32 - n) % 4294967296)
theorem or_lt {a b : Nat} (h : a < 4294967296) (h' : b < 4294967296) : a ||| b < 4294967296 := Nat.or_lt_two_pow (n := 32) h h'
theorem xor_lt {a b : Nat} (h : a < 4294967296) (h' : b < 4294967296) : a ^^^ b < 4294967296 := Nat.xor_lt_two_pow (n := 32) h h'
theorem and_lt {a b : Nat} (h : a < 4294967296) : a &&& b < 4294967296 := Nat.lt_of_le_of_lt Nat.and_le_left h
theorem div_lt {x : Nat} (n : Nat) (h : x < 4294967296) : x / n < 4294967296 := Nat.lt_of_le_of_lt (Nat.div_le_self _ _) h
theorem ror_lt {x : Nat} (n : Nat) (h : x < 4294967296) : ror x n < 4294967296 := or_lt (div_lt _ h) (Nat.mod_lt _ (by decide))
def sg0 (x : Nat) : Nat := ror x 7 ^^^ ror x 18 ^^^ (x / 8)
def sg1 (x : Nat) : Nat := ror x 17 ^^^ ror x 19 ^^^ (x / 1024)
def bg1 (x : Nat) : Nat := ror x 6 ^^^ ror x 11 ^^^ ror x 25
def bg0 (x : Nat) : Nat := ror x 2 ^^^ ror x 13 ^^^ ror x 22
def chN (e f g : Nat) : Nat := (e &&& f) ^^^ ((4294967295 - e) &&& g)
def majN (a b c : Nat) : Nat := (a &&& b) ^^^ (a &&& c) ^^^ (b &&& c)
theorem sg0_lt {x : Nat} (h : x < 4294967296) : sg0 x < 4294967296 := xor_lt (xor_lt (ror_lt _ h) (ror_lt _ h)) (div_lt _ h)
theorem sg1_lt {x : Nat} (h : x < 4294967296) : sg1 x < 4294967296 := xor_lt (xor_lt (ror_lt _ h) (ror_lt _ h)) (div_lt _ h)
theorem bg1_lt {x : Nat} (h : x < 4294967296) : bg1 x < 4294967296 := xor_lt (xor_lt (ror_lt _ h) (ror_lt _ h)) (ror_lt _ h)
theorem bg0_lt {x : Nat} (h : x < 4294967296) : bg0 x < 4294967296 := xor_lt (xor_lt (ror_lt _ h) (ror_lt _ h)) (ror_lt _ h)
theorem chN_lt {e : Nat} (f g : Nat) (h : e < 4294967296) : chN e f g < 4294967296 := xor_lt (and_lt h) (and_lt (by omega))
theorem majN_lt {a b : Nat} (c : Nat) (h : a < 4294967296) (h' : b < 4294967296) : majN a b c < 4294967296 := xor_lt (xor_lt (and_lt h) (and_lt h)) (and_lt h')

/-- Eight words. -/
structure S8 where
  a : Nat
  b : Nat
  c : Nat
  d : Nat
  e : Nat
  f : Nat
  g : Nat
  h : Nat
structure S8.Ok (s : S8) : Prop where
  a : s.a < 4294967296
  b : s.b < 4294967296
  c : s.c < 4294967296
  d : s.d < 4294967296
  e : s.e < 4294967296
  f : s.f < 4294967296
  g : s.g < 4294967296
  h : s.h < 4294967296
def S8.list (s : S8) : List Nat := [s.a, s.b, s.c, s.d, s.e, s.f, s.g, s.h]
theorem S8.Ok.all {s : S8} (h : s.Ok) : ∀ x ∈ s.list, x < 4294967296 := by
  intro x hx
  simp only [S8.list, List.mem_cons, List.not_mem_nil, or_false] at hx
  rcases hx with rfl | rfl | rfl | rfl | rfl | rfl | rfl | rfl
  · exact h.a
  · exact h.b
  · exact h.c
  · exact h.d
  · exact h.e
  · exact h.f
  · exact h.g
  · exact h.h
def t1N (k w : Nat) (s : S8) : Nat := s.h + bg1 s.e + chN s.e s.f s.g + k + w
def step (k w : Nat) (s : S8) : S8 := ⟨(t1N k w s + bg0 s.a + majN s.a s.b s.c) % 4294967296, s.a, s.b, s.c, (s.d + t1N k w s) % 4294967296, s.e, s.f, s.g⟩
theorem step_ok (k w : Nat) {s : S8} (h : s.Ok) : (step k w s).Ok := ⟨Nat.mod_lt _ (by decide), h.a, h.b, h.c, Nat.mod_lt _ (by decide), h.e, h.f, h.g⟩
/-- The numbers of the rounds. -/
def kTab : List Nat := [1116352408, 1899447441, 3049323471, 3921009573, 961987163, 1508970993, 2453635748, 2870763221, 3624381080, 310598401, 607225278, 1426881987, 1925078388, 2162078206, 2614888103, 3248222580, 3835390401, 4022224774, 264347078, 604807628, 770255983, 1249150122, 1555081692, 1996064986, 2554220882, 2821834349, 2952996808, 3210313671, 3336571891, 3584528711, 113926993, 338241895, 666307205, 773529912, 1294757372, 1396182291, 1695183700, 1986661051, 2177026350, 2456956037, 2730485921, 2820302411, 3259730800, 3345764771, 3516065817, 3600352804, 4094571909, 275423344, 430227734, 506948616, 659060556, 883997877, 958139571, 1322822218, 1537002063, 1747873779, 1955562222, 2024104815, 2227730452, 2361852424, 2428436474, 2756734187, 3204031479, 3329325298]
theorem kTab_len : kTab.length = 64 := by rfl
theorem kTab_lt (i : Nat) : kTab.getD i 0 < 4294967296 := by
  rcases Nat.lt_or_ge i 64 with h | h
  · have : ∀ j : Fin 64, kTab.getD j.1 0 < 4294967296 := by decide
    exact this ⟨i, h⟩
  · rw [List.getD_eq_getElem?_getD, List.getElem?_eq_none (by rw [kTab_len]; exact h)]; decide
def h0 : S8 := ⟨1779033703, 3144134277, 1013904242, 2773480762, 1359893119, 2600822924, 528734635, 1541459225⟩
theorem h0_ok : h0.Ok := ⟨by decide, by decide, by decide, by decide, by decide, by decide, by decide, by decide⟩

/-- Word t of a block, the words ahead of it being l. -/
def wordN (b : List UInt8) (l : List Nat) (t : Nat) : Nat :=
  if t < 16 then (((b.getD (4 * t) 0).toNat * 256 + (b.getD (4 * t + 1) 0).toNat) * 256 + (b.getD (4 * t + 2) 0).toNat) * 256 + (b.getD (4 * t + 3) 0).toNat
  else (sg1 (l.getD (t - 2) 0) + l.getD (t - 7) 0 + sg0 (l.getD (t - 15) 0) + l.getD (t - 16) 0) % 4294967296
def sch (b : List UInt8) : Nat → List Nat
  | 0 => []
  | t + 1 => sch b t ++ [wordN b (sch b t) t]
theorem sch_len (b : List UInt8) (t : Nat) : (sch b t).length = t := by
  induction t with
  | zero => rfl
  | succ t ih => simp [sch, ih]
theorem wordN_lt (b : List UInt8) (l : List Nat) (t : Nat) : wordN b l t < 4294967296 := by
  unfold wordN
  split
  · have h1 := (b.getD (4 * t) 0).toNat_lt
    have h2 := (b.getD (4 * t + 1) 0).toNat_lt
    have h3 := (b.getD (4 * t + 2) 0).toNat_lt
    have h4 := (b.getD (4 * t + 3) 0).toNat_lt
    omega
  · exact Nat.mod_lt _ (by decide)
theorem sch_lt (b : List UInt8) (t : Nat) : ∀ x ∈ sch b t, x < 4294967296 := by
  induction t with
  | zero => intro x hx; cases hx
  | succ t ih =>
    intro x hx
    rcases List.mem_append.1 hx with hx | hx
    · exact ih x hx
    · rw [List.mem_singleton.1 hx]; exact wordN_lt _ _ _
theorem sch_getD (b : List UInt8) (t i : Nat) : (sch b t).getD i 0 < 4294967296 := by
  rw [List.getD_eq_getElem?_getD]
  cases h : (sch b t)[i]? with
  | none => decide
  | some x => exact sch_lt b t x (List.mem_of_getElem? h)
theorem sch_pre (b : List UInt8) (t i n : Nat) (h : i < t) (hn : t ≤ n) : (sch b t).getD i 0 = (sch b n).getD i 0 := by
  induction n with
  | zero => omega
  | succ n ih =>
    by_cases e : t = n + 1
    · rw [e]
    · rw [ih (by omega), sch, List.getD_eq_getElem?_getD, List.getD_eq_getElem?_getD, List.getElem?_append_left (by rw [sch_len]; omega)]
def rnds (W : List Nat) (s : S8) : Nat → S8
  | 0 => s
  | i + 1 => step (kTab.getD i 0) (W.getD i 0) (rnds W s i)
theorem rnds_ok (W : List Nat) {s : S8} (h : s.Ok) (i : Nat) : (rnds W s i).Ok := by
  induction i with
  | zero => exact h
  | succ i ih => exact step_ok _ _ ih
def add8 (s t : S8) : S8 := ⟨(s.a + t.a) % 4294967296, (s.b + t.b) % 4294967296, (s.c + t.c) % 4294967296, (s.d + t.d) % 4294967296, (s.e + t.e) % 4294967296, (s.f + t.f) % 4294967296, (s.g + t.g) % 4294967296, (s.h + t.h) % 4294967296⟩
theorem add8_ok (s t : S8) : (add8 s t).Ok := ⟨Nat.mod_lt _ (by decide), Nat.mod_lt _ (by decide), Nat.mod_lt _ (by decide), Nat.mod_lt _ (by decide), Nat.mod_lt _ (by decide), Nat.mod_lt _ (by decide), Nat.mod_lt _ (by decide), Nat.mod_lt _ (by decide)⟩
/-- One block more. -/
def comp (s : S8) (b : List UInt8) : S8 := add8 s (rnds (sch b 64) s 64)
theorem comp_ok (s : S8) (b : List UInt8) : (comp s b).Ok := add8_ok _ _
/-- n blocks of a text. -/
def blks (l : List UInt8) (s : S8) : Nat → S8
  | 0 => s
  | n + 1 => comp (blks l s n) ((l.drop (64 * n)).take 64)
theorem blks_ok (l : List UInt8) {s : S8} (h : s.Ok) (n : Nat) : (blks l s n).Ok := by
  cases n with
  | zero => exact h
  | succ n => exact comp_ok _ _
/-- The eight bytes of a length in bits. -/
def lenB (n : Nat) : List UInt8 := [56, 48, 40, 32, 24, 16, 8, 0].map fun s => UInt8.ofNat (8 * n / 2 ^ s % 256)
/-- How many zeros there are behind the 128. -/
def zerosN (n : Nat) : Nat := (119 - n % 64) % 64
def padT (l : List UInt8) (n : Nat) : List UInt8 := l ++ [128] ++ List.replicate (zerosN l.length) 0 ++ lenB n
theorem padT_len (l : List UInt8) (n : Nat) : (padT l n).length = l.length + 9 + zerosN l.length := by simp [padT, lenB]; omega
theorem padT_whole (l : List UInt8) (n : Nat) : (padT l n).length % 64 = 0 := by rw [padT_len, zerosN]; omega
theorem blks_pre (a b : List UInt8) (s : S8) (k : Nat) (hk : 64 * k ≤ a.length) : blks (a ++ b) s k = blks a s k := by
  induction k with
  | zero => rfl
  | succ k ih =>
    rw [blks, blks, ih (by omega)]
    congr 1
    rw [List.drop_append_of_le_length (by omega), List.take_append_of_le_length (by simp; omega)]
theorem blks_add (a b : List UInt8) (s : S8) (n k : Nat) (h : a.length = 64 * n) : blks (a ++ b) s (n + k) = blks b (blks a s n) k := by
  induction k with
  | zero => exact blks_pre a b s n (by omega)
  | succ k ih =>
    rw [← Nat.add_assoc, blks, blks, ih]
    congr 2
    rw [show 64 * (n + k) = a.length + 64 * k by omega, ← List.drop_drop, List.drop_left]
def digs : List UInt8 := [48, 49, 50, 51, 52, 53, 54, 55, 56, 57, 97, 98, 99, 100, 101, 102]
def hexW (x : Nat) : List UInt8 := [28, 24, 20, 16, 12, 8, 4, 0].map fun s => digs.getD (x / 2 ^ s % 16) 0
def hex8 (s : S8) : List UInt8 := (s.list.map hexW).flatten
/-- The SHA-256 of a text, as its digits. -/
def sha (l : List UInt8) : List UInt8 := hex8 (blks (padT l l.length) h0 ((padT l l.length).length / 64))
/-- The same, the text's whole blocks first. -/
theorem sha_two (l : List UInt8) (n : Nat) (hn : 64 * n ≤ l.length) :
    sha l = hex8 (blks (padT (l.drop (64 * n)) l.length) (blks l h0 n) ((padT (l.drop (64 * n)) l.length).length / 64)) := by
  have hz : zerosN (l.drop (64 * n)).length = zerosN l.length := by rw [List.length_drop, zerosN, zerosN]; omega
  have hp : padT l l.length = l.take (64 * n) ++ padT (l.drop (64 * n)) l.length := by
    rw [padT, padT, hz]
    simp only [← List.append_assoc, List.take_append_drop]
  have hl : (l.take (64 * n)).length = 64 * n := by simp; omega
  have hb : blks l h0 n = blks (l.take (64 * n)) h0 n := by
    conv => lhs; rw [← List.take_append_drop (64 * n) l]
    exact blks_pre _ _ _ _ (by omega)
  rw [sha, hp, hb, List.length_append, hl, show (64 * n + (padT (l.drop (64 * n)) l.length).length) / 64 = n + (padT (l.drop (64 * n)) l.length).length / 64 by omega, blks_add _ _ _ _ _ hl]
set_option maxRecDepth 100000 in
theorem sha_abc : sha [97, 98, 99] = [98, 97, 55, 56, 49, 54, 98, 102, 56, 102, 48, 49, 99, 102, 101, 97, 52, 49, 52, 49, 52, 48, 100, 101, 53, 100, 97, 101, 50, 50, 50, 51, 98, 48, 48, 51, 54, 49, 97, 51, 57, 54, 49, 55, 55, 97, 57, 99, 98, 52, 49, 48, 102, 102, 54, 49, 102, 50, 48, 48, 49, 53, 97, 100] := by decide +kernel
end Go.Proofs.YtpboclnfjpofjaaDoor.Sha
