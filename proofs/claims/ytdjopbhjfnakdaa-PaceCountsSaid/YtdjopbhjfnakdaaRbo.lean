/- A slice of bools in memory, whatever they are. No program's function. -/
import Derived.Test.YtdjopbhjfnakdaaBaz
namespace Go.Proofs.Ytdjopbhjfnakdaa
open Go.RowKit
set_option linter.unusedVariables false
set_option linter.unusedSimpArgs false
set_option maxRecDepth 20000

/-- A slice of bools, below block B, whatever they are. -/
def RBo (w : World) (B : Nat) (A : Option Addr) (n c : Nat) : Prop :=
  n ≤ c ∧ (0 < n → ∃ b off, A = some ⟨b, off, none⟩ ∧ b < B ∧ ∀ i, i < n → ∃ t : Bool, w.cell? ⟨b, off + i, none⟩ = some (.bool t))
end Go.Proofs.Ytdjopbhjfnakdaa
