/- A scope with several labels into which the run may also fall from above. -/
import Derived.Test.YtjilhneefbakhaaDoorScopes
namespace Go.Proofs.YtjilhneefbakhaaDoor.Inf

/-- What holds at label l carries the run from there on to a jump of a lower measure, or out. -/
def Falls (P : Program) (c : Code) (J : Nat → Nat → Act → World → Prop) (Q : Exit → Act → World → Prop) (n l : Nat) (a : Act) (w : World) : Prop :=
  ∃ rest, findLabel c l = some (.seq .skip rest) ∧ rest.wp P (jumps (fun l' a' w' => ∃ m, m < n ∧ J m l' a' w') Q) a w
theorem scope_fall {P : Program} {Q : Exit → Act → World → Prop} {a : Act} {w : World} {c : Code} (J : Nat → Nat → Act → World → Prop)
    (pass : ∀ n, (∀ m l a w, m < n → J m l a w → Falls P c J Q m l a w) → ∀ l a w, J n l a w → Falls P c J Q n l a w)
    (first : (∀ m l a w, J m l a w → Falls P c J Q m l a w) → c.wp P (jumps (fun l a' w' => ∃ n, J n l a' w') Q) a w) : (Code.scope c).wp P Q a w := by
  have all : ∀ m l a w, J m l a w → Falls P c J Q m l a w := by
    intro m
    induction m using Nat.strongRecOn with
    | _ m ih => exact pass m (fun k l a w hk => ih k hk l a w)
  refine scope_ghost J (first all) fun n l a w hJ => ?_
  obtain ⟨rest, h1, h2⟩ := all n l a w hJ
  exact ⟨_, h1, wp_seq (wp_skip h2)⟩
/-- A frame by its known slots, the others a function's values. -/
theorem mkF {a : Act} {mk : (Nat → Value) → Act} (h : a = mk (fun i => a.tmps.getD i undef)) : ∃ f, a = mk f := ⟨_, h⟩
/-- The run falls into a label. -/
theorem fall {P : Program} {c : Code} {J : Nat → Nat → Act → World → Prop} {Q : Exit → Act → World → Prop} {m l : Nat} {a : Act} {w : World} {rest : Code} {K : Nat → Act → World → Prop}
    (h : Falls P c J Q m l a w) (hc : findLabel c l = some (.seq .skip rest)) (hK : ∀ k l' a' w', k < m → J k l' a' w' → K l' a' w') : (Code.seq (.label l) rest).wp P (jumps K Q) a w := by
  obtain ⟨r, h1, h2⟩ := h
  rw [hc] at h1
  injection h1 with h1
  injection h1 with _ h1
  subst h1
  refine wp_seq (wp_label (wp_mono h2 ?_))
  intro e a w hq
  match e, hq with
  | .normal, hq => exact hq
  | .exit id, hq => exact hq
  | .goto l', hq => obtain ⟨k, hk, hJ⟩ := hq; exact hK k l' a w hk hJ
  | .ret, hq => exact hq
  | .panic ch, hq => exact hq
  | .outgrown, hq => exact hq
theorem fall2 {P : Program} {c : Code} {J : Nat → Nat → Act → World → Prop} {Q : Exit → Act → World → Prop} {m l : Nat} {a : Act} {w : World} {rest : Code} {K : Nat → Act → World → Prop}
    (h : Falls P c J Q m l a w) (hc : findLabel c l = some (.seq .skip rest)) (hK : ∀ k l' a' w', k < m → J k l' a' w' → K l' a' w') : rest.wp P (jumps K Q) a w := by
  obtain ⟨r, h1, h2⟩ := h
  rw [hc] at h1
  injection h1 with h1
  injection h1 with _ h1
  subst h1
  refine wp_mono h2 ?_
  intro e a w hq
  match e, hq with
  | .normal, hq => exact hq
  | .exit id, hq => exact hq
  | .goto l', hq => obtain ⟨k, hk, hJ⟩ := hq; exact hK k l' a w hk hJ
  | .ret, hq => exact hq
  | .panic ch, hq => exact hq
  | .outgrown, hq => exact hq
end Go.Proofs.YtjilhneefbakhaaDoor.Inf
