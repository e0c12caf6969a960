/- A slice of ints in memory, whatever they are. No program's function. -/
import Derived.Test.YtmkbbndfdgnakaaBaz
namespace Go.Proofs.Ytmkbbndfdgnakaa
open Go.RowKit
set_option linter.unusedVariables false
set_option linter.unusedSimpArgs false
set_option maxRecDepth 20000

theorem below_drewN (B : Nat) (w : World) (n : Nat) : Below B w (w.drewN n) := ⟨rfl, rfl, rfl, Nat.le_refl _, fun _ _ => rfl⟩
/-- A slice of ints, below block B (whatever they are). -/
def RI (w : World) (B : Nat) (A : Option Addr) (n c : Nat) : Prop :=
  n ≤ c ∧ (0 < n → ∃ b off, A = some ⟨b, off, none⟩ ∧ b < B ∧ ∀ i, i < n → ∃ x : Int, I64 x ∧ w.cell? ⟨b, off + i, none⟩ = some (.int .i64 x))
theorem RI.keep {w w' : World} {B n c : Nat} {A : Option Addr} (h : RI w B A n c) (hb : Below B w w') : RI w' B A n c :=
  ⟨h.1, fun hn => by
    obtain ⟨b, off, e, hlt, hc⟩ := h.2 hn
    refine ⟨b, off, e, hlt, fun i hi => ?_⟩
    obtain ⟨x, h1, h2⟩ := hc i hi
    exact ⟨x, h1, (hb.cell (p := ⟨b, off + i, none⟩) hlt).trans h2⟩⟩
end Go.Proofs.Ytmkbbndfdgnakaa
