/- A slice of unsigned numbers of some kind in memory. No program's function. -/
import Derived.Test.YtmkbbndfdgnakaaBaz
namespace Go.Proofs.Ytmkbbndfdgnakaa
open Go.RowKit
set_option linter.unusedVariables false
set_option linter.unusedSimpArgs false
set_option maxRecDepth 20000

/-- A slice of numbers of kind q, below M, that reads as F. -/
def RK (q : IntKind) (M : Nat) (w : World) (B : Nat) (A : Option Addr) (n c : Nat) (F : Nat → Nat) : Prop :=
  n ≤ c ∧ (∀ i, i < n → F i < M) ∧ (0 < n → ∃ b off, A = some ⟨b, off, none⟩ ∧ b < B ∧ ∀ i, i < n → w.cell? ⟨b, off + i, none⟩ = some (.int q (F i : Int)))
theorem RK.below {q : IntKind} {M : Nat} {w w' : World} {B n c : Nat} {A : Option Addr} {F : Nat → Nat} (h : RK q M w B A n c F) (hb : Below B w w') : RK q M w' B A n c F :=
  ⟨h.1, h.2.1, fun hn => by
    obtain ⟨b, off, e, hlt, hc⟩ := h.2.2 hn
    exact ⟨b, off, e, hlt, fun i hi => (hb.cell (p := ⟨b, off + i, none⟩) hlt).trans (hc i hi)⟩⟩
theorem RK.on {q : IntKind} {M : Nat} {w w' : World} {n c : Nat} {A : Option Addr} {F : Nat → Nat} (h : RK q M w w.heap.size A n c F) (hb : Below w.heap.size w w') : RK q M w' w'.heap.size A n c F := by
  have h2 := h.below hb
  exact ⟨h2.1, h2.2.1, fun hn => by
    obtain ⟨b, off, e, hlt, hc⟩ := h2.2.2 hn
    exact ⟨b, off, e, Nat.lt_of_lt_of_le hlt hb.size, hc⟩⟩
theorem RK.nil (q : IntKind) (M : Nat) (w : World) (B : Nat) (c : Nat) : RK q M w B none 0 c (fun _ => 0) := ⟨Nat.zero_le _, fun i hi => absurd hi (by omega), fun h => absurd h (by omega)⟩
end Go.Proofs.Ytmkbbndfdgnakaa
