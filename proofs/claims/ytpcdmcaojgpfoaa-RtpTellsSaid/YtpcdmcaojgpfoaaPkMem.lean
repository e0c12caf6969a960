/- A block of nine cells (a packet) that is written over whole. No program's function. -/
import Derived.Test.YtpcdmcaojgpfoaaPkt
namespace Go.Proofs.Ytpcdmcaojgpfoaa
open Go.RowKit
set_option linter.unusedVariables false
set_option linter.unusedSimpArgs false
set_option maxRecDepth 20000

def set9 (W : World) (R : Nat) (v0 v1 v2 v3 v4 v5 v6 v7 v8 : Value) : World := (((((((((W.setCell ⟨R, 0, none⟩ v0).setCell ⟨R, 1, none⟩ v1).setCell ⟨R, 2, none⟩ v2).setCell ⟨R, 3, none⟩ v3).setCell ⟨R, 4, none⟩ v4).setCell ⟨R, 5, none⟩ v5).setCell ⟨R, 6, none⟩ v6).setCell ⟨R, 7, none⟩ v7).setCell ⟨R, 8, none⟩ v8)
section
variable {W : World} {R : Nat} {c0 c1 c2 c3 c4 c5 c6 c7 c8 v0 v1 v2 v3 v4 v5 v6 v7 v8 : Value}
theorem set9_blk (h : Blk W R 28 #[c0, c1, c2, c3, c4, c5, c6, c7, c8]) : Blk (set9 W R v0 v1 v2 v3 v4 v5 v6 v7 v8) R 28 #[v0, v1, v2, v3, v4, v5, v6, v7, v8] := by
  have h1 : Blk (W.setCell ⟨R, 0, none⟩ v0) R 28 #[v0, c1, c2, c3, c4, c5, c6, c7, c8] := by
    have := h.set_ 0 v0
    simpa only [List.setIfInBounds_toArray, List.set_cons_succ, List.set_cons_zero] using this
  have h2 : Blk ((W.setCell ⟨R, 0, none⟩ v0).setCell ⟨R, 1, none⟩ v1) R 28 #[v0, v1, c2, c3, c4, c5, c6, c7, c8] := by
    have := h1.set_ 1 v1
    simpa only [List.setIfInBounds_toArray, List.set_cons_succ, List.set_cons_zero] using this
  have h3 : Blk (((W.setCell ⟨R, 0, none⟩ v0).setCell ⟨R, 1, none⟩ v1).setCell ⟨R, 2, none⟩ v2) R 28 #[v0, v1, v2, c3, c4, c5, c6, c7, c8] := by
    have := h2.set_ 2 v2
    simpa only [List.setIfInBounds_toArray, List.set_cons_succ, List.set_cons_zero] using this
  have h4 : Blk ((((W.setCell ⟨R, 0, none⟩ v0).setCell ⟨R, 1, none⟩ v1).setCell ⟨R, 2, none⟩ v2).setCell ⟨R, 3, none⟩ v3) R 28 #[v0, v1, v2, v3, c4, c5, c6, c7, c8] := by
    have := h3.set_ 3 v3
    simpa only [List.setIfInBounds_toArray, List.set_cons_succ, List.set_cons_zero] using this
  have h5 : Blk (((((W.setCell ⟨R, 0, none⟩ v0).setCell ⟨R, 1, none⟩ v1).setCell ⟨R, 2, none⟩ v2).setCell ⟨R, 3, none⟩ v3).setCell ⟨R, 4, none⟩ v4) R 28 #[v0, v1, v2, v3, v4, c5, c6, c7, c8] := by
    have := h4.set_ 4 v4
    simpa only [List.setIfInBounds_toArray, List.set_cons_succ, List.set_cons_zero] using this
  have h6 : Blk ((((((W.setCell ⟨R, 0, none⟩ v0).setCell ⟨R, 1, none⟩ v1).setCell ⟨R, 2, none⟩ v2).setCell ⟨R, 3, none⟩ v3).setCell ⟨R, 4, none⟩ v4).setCell ⟨R, 5, none⟩ v5) R 28 #[v0, v1, v2, v3, v4, v5, c6, c7, c8] := by
    have := h5.set_ 5 v5
    simpa only [List.setIfInBounds_toArray, List.set_cons_succ, List.set_cons_zero] using this
  have h7 : Blk (((((((W.setCell ⟨R, 0, none⟩ v0).setCell ⟨R, 1, none⟩ v1).setCell ⟨R, 2, none⟩ v2).setCell ⟨R, 3, none⟩ v3).setCell ⟨R, 4, none⟩ v4).setCell ⟨R, 5, none⟩ v5).setCell ⟨R, 6, none⟩ v6) R 28 #[v0, v1, v2, v3, v4, v5, v6, c7, c8] := by
    have := h6.set_ 6 v6
    simpa only [List.setIfInBounds_toArray, List.set_cons_succ, List.set_cons_zero] using this
  have h8 : Blk ((((((((W.setCell ⟨R, 0, none⟩ v0).setCell ⟨R, 1, none⟩ v1).setCell ⟨R, 2, none⟩ v2).setCell ⟨R, 3, none⟩ v3).setCell ⟨R, 4, none⟩ v4).setCell ⟨R, 5, none⟩ v5).setCell ⟨R, 6, none⟩ v6).setCell ⟨R, 7, none⟩ v7) R 28 #[v0, v1, v2, v3, v4, v5, v6, v7, c8] := by
    have := h7.set_ 7 v7
    simpa only [List.setIfInBounds_toArray, List.set_cons_succ, List.set_cons_zero] using this
  have h9 : Blk (((((((((W.setCell ⟨R, 0, none⟩ v0).setCell ⟨R, 1, none⟩ v1).setCell ⟨R, 2, none⟩ v2).setCell ⟨R, 3, none⟩ v3).setCell ⟨R, 4, none⟩ v4).setCell ⟨R, 5, none⟩ v5).setCell ⟨R, 6, none⟩ v6).setCell ⟨R, 7, none⟩ v7).setCell ⟨R, 8, none⟩ v8) R 28 #[v0, v1, v2, v3, v4, v5, v6, v7, v8] := by
    have := h8.set_ 8 v8
    simpa only [List.setIfInBounds_toArray, List.set_cons_succ, List.set_cons_zero] using this
  exact h9
theorem set9_below {B : Nat} (hR : B ≤ R) : Below B W (set9 W R v0 v1 v2 v3 v4 v5 v6 v7 v8) := (Below.setCell (Below.setCell (Below.setCell (Below.setCell (Below.setCell (Below.setCell (Below.setCell (Below.setCell (Below.setCell (Below.refl _ _) (p := ⟨R, 0, none⟩) hR _) (p := ⟨R, 1, none⟩) hR _) (p := ⟨R, 2, none⟩) hR _) (p := ⟨R, 3, none⟩) hR _) (p := ⟨R, 4, none⟩) hR _) (p := ⟨R, 5, none⟩) hR _) (p := ⟨R, 6, none⟩) hR _) (p := ⟨R, 7, none⟩) hR _) (p := ⟨R, 8, none⟩) hR _)
end
theorem blk9 {W : World} {R : Nat} {v0 v1 v2 v3 v4 v5 v6 v7 v8 : Value} (h : Blk W R 28 #[v0, v1, v2, v3, v4, v5, v6, v7, v8]) : W.cell? ⟨R, 0, none⟩ = some v0 ∧ W.cell? ⟨R, 1, none⟩ = some v1 ∧ W.cell? ⟨R, 2, none⟩ = some v2 ∧ W.cell? ⟨R, 3, none⟩ = some v3 ∧ W.cell? ⟨R, 4, none⟩ = some v4 ∧ W.cell? ⟨R, 5, none⟩ = some v5 ∧ W.cell? ⟨R, 6, none⟩ = some v6 ∧ W.cell? ⟨R, 7, none⟩ = some v7 ∧ W.cell? ⟨R, 8, none⟩ = some v8 :=
  ⟨h.cell 0, h.cell 1, h.cell 2, h.cell 3, h.cell 4, h.cell 5, h.cell 6, h.cell 7, h.cell 8⟩
end Go.Proofs.Ytpcdmcaojgpfoaa
