/- A store among the operations of a region that draws its order and writes what others keep. No function of the program. -/
import Derived.Test.YtfijlgkgbbemnaaRegD
namespace Go.Proofs.Ytfijlgkgbbemnaa
open Go.RowKit
set_option linter.unusedVariables false
set_option linter.unusedSimpArgs false
set_option maxRecDepth 20000

section
variable {F : Frame} {per : Nat → Value → Prop} {dead : Nat → Nat → Bool} {sp : Nat → Bool} {pre : Nat → World → Prop} {P : Program} {ops : Array Oper} {tbl : List (ClF F)} {a0 : Act} {w0 : World} {Q : Exit → Act → World → Prop}
theorem OblDX.store {i : Nat} {o : Oper} (hg : o.guard = none) (hds : o.dst = none)
    (h : ∀ (ev : Operand → Value) (w : World), F.I w → pre i w → (∀ x, (clOfD dead ops tbl a0 i x).holds (ev x) w) → ∃ w', (execOp ev o).run P w = .ok .skip w' ∧ F.I w' ∧ (∀ j u, j ≠ i → dead i j = false → depOn ops j i = false → (tblF tbl j).holds u w → (tblF tbl j).holds u w') ∧ (∀ j, j ≠ i → sp j = true → depOn ops i j = false → pre j w → pre j w') ∧ (tblF tbl i).holds undef w') : OblDX dead sp pre P ops tbl a0 Q i o := by
  intro a w hI hp hx hdp K hK
  have hw : Region.wanted o (yielded ops a.tmps) = true := by
    unfold Region.wanted
    rw [hg]
  rw [if_pos hw]
  obtain ⟨w', hrun, h1, h2, h3, h4⟩ := h a.eval w hI hp hx
  unfold Oper.wp
  rw [hrun]
  exact hK undef w' h1 h2 h3 (by rw [hds]; exact h4)
end
end Go.Proofs.Ytfijlgkgbbemnaa
