/- A slice of uint64 numbers in memory. No program's function. -/
import Derived.Test.YtfijlgkgbbemnaaBaz
namespace Go.Proofs.Ytfijlgkgbbemnaa
open Go.RowKit
set_option linter.unusedVariables false
set_option linter.unusedSimpArgs false
set_option maxRecDepth 20000

/-- A slice of uint64 numbers that reads as F. -/
def RU (w : World) (B : Nat) (A : Option Addr) (n c : Nat) (F : Nat → Nat) : Prop :=
  n ≤ c ∧ (∀ i, i < n → F i < 18446744073709551616) ∧ (0 < n → ∃ b off, A = some ⟨b, off, none⟩ ∧ b < B ∧ ∀ i, i < n → w.cell? ⟨b, off + i, none⟩ = some (.int .u64 (F i : Int)))
theorem RU.below {w w' : World} {B n c : Nat} {A : Option Addr} {F : Nat → Nat} (h : RU w B A n c F) (hb : Below B w w') : RU w' B A n c F :=
  ⟨h.1, h.2.1, fun hn => by
    obtain ⟨b, off, e, hlt, hc⟩ := h.2.2 hn
    exact ⟨b, off, e, hlt, fun i hi => (hb.cell (p := ⟨b, off + i, none⟩) hlt).trans (hc i hi)⟩⟩
end Go.Proofs.Ytfijlgkgbbemnaa
