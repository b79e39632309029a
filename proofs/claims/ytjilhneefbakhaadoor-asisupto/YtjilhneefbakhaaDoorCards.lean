/-
  DERIVED. GIVEN WITH THE SEED: THE CARDS: each row of YtjilhneefbakhaaDoorRows.lean that lists a variable, with what it lists TIED to the program's text (the seventh form; the later family's looks); each row that meets fmt, with fmt's text TOLD by the authors' own Lean function (tested against real Go, not proved from fmt's source: count such statements apart). THE CARD IS WHAT COUNTS. Prove the row's statement (the work); the ties are given (YtjilhneefbakhaaDoorTie.lean); close each card by the builder's one call (the guide's Derived/Test/ToyasCard.lean, 'card_holds'). Laid BY PROGRAM, IN A SANDBOX (cutbox-door.mjs). By AI agents, Wed Nov 11 2026. No macro, syntax, notation, axiom, sorry.
-/
import Derived.Test.YtjilhneefbakhaaDoorRows
import GoSem.ClaimSeven
namespace Go.Proofs.YtjilhneefbakhaaDoor
namespace Rows

/-- THE TIED CARD OF 'satchellaw.Inflates'. -/
def inflatesCard : Claim7 := { stood := { row := inflatesRow, standIns := [], harness := (true, "07a0f38647df01e8b9705f0056b593a49c4d72a2b566d47bf35cf2e28a055687"), looks := true }, kinds := [], alts := [], laidByText := true, laidKinds := [.handle, .sentinel, .data, .data, .data, .data, .data, .sentinel, .sentinel, .sentinel, .sentinel, .sentinel, .sentinel, .sentinel, .sentinel, .sentinel, .sentinel, .sentinel, .sentinel, .sentinel, .sentinel, .sentinel, .sentinel, .sentinel, .sentinel, .sentinel, .sentinel, .sentinel, .sentinel, .sentinel, .sentinel, .sentinel, .sentinel], laidTests := true, laidLooks := .later }
def InflatesCardSaid : Prop := Claim7.holds Tryd.pinned (.plain (OpenSpec.ofChange inflatesSpec)) inflatesCard

/-- THE TIED CARD OF 'satchelkeep.AsIs'. -/
def asIsCard : Claim7 := { stood := { row := asIsRow, standIns := [], harness := (true, "07a0f38647df01e8b9705f0056b593a49c4d72a2b566d47bf35cf2e28a055687"), looks := true }, kinds := [], alts := [], laidByText := true, laidKinds := [.handle, .sentinel, .data, .data, .data, .data, .data, .sentinel, .sentinel, .sentinel, .sentinel, .sentinel, .sentinel, .sentinel, .sentinel, .sentinel, .sentinel, .sentinel, .sentinel, .sentinel, .sentinel, .sentinel, .sentinel, .sentinel, .sentinel, .sentinel, .sentinel, .sentinel, .sentinel, .sentinel, .sentinel, .sentinel, .sentinel], laidTests := true, laidLooks := .later }
def AsIsCardSaid : Prop := Claim7.holds Tryd.pinned (.plain (OpenSpec.ofChange asIsSpec)) asIsCard

/-- THE SECOND FORM's CARD OF 'satchellaw.Inflates'. -/
def inflatesUptoCard : Claim7 := { stood := { row := inflatesUptoRow, standIns := [], harness := (true, "07a0f38647df01e8b9705f0056b593a49c4d72a2b566d47bf35cf2e28a055687"), looks := true }, kinds := [], alts := [], laidByText := true, laidKinds := [.handle, .sentinel, .data, .data, .data, .data, .data, .sentinel, .sentinel, .sentinel, .sentinel, .sentinel, .sentinel, .sentinel, .sentinel, .sentinel, .sentinel, .sentinel, .sentinel, .sentinel, .sentinel, .sentinel, .sentinel, .sentinel, .sentinel, .sentinel, .sentinel, .sentinel, .sentinel, .sentinel, .sentinel, .sentinel, .sentinel], laidTests := true, laidLooks := .later }
def InflatesUptoCardSaid : Prop := Claim7.holds Tryd.pinned (.plain (OpenSpec.upto inflatesSpec)) inflatesUptoCard

/-- THE SECOND FORM's CARD OF 'satchelkeep.AsIs'. -/
def asIsUptoCard : Claim7 := { stood := { row := asIsUptoRow, standIns := [], harness := (true, "07a0f38647df01e8b9705f0056b593a49c4d72a2b566d47bf35cf2e28a055687"), looks := true }, kinds := [], alts := [], laidByText := true, laidKinds := [.handle, .sentinel, .data, .data, .data, .data, .data, .sentinel, .sentinel, .sentinel, .sentinel, .sentinel, .sentinel, .sentinel, .sentinel, .sentinel, .sentinel, .sentinel, .sentinel, .sentinel, .sentinel, .sentinel, .sentinel, .sentinel, .sentinel, .sentinel, .sentinel, .sentinel, .sentinel, .sentinel, .sentinel, .sentinel, .sentinel], laidTests := true, laidLooks := .later }
def AsIsUptoCardSaid : Prop := Claim7.holds Tryd.pinned (.plain (OpenSpec.upto asIsSpec)) asIsUptoCard
end Rows
end Go.Proofs.YtjilhneefbakhaaDoor
