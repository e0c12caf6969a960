/- limelightref13's Set: what bounds. -/
import Derived.Test.YtfijlgkgbbemnaaBdC
namespace Go.Proofs.Ytfijlgkgbbemnaa
open Go.RowKit
set_option linter.unusedVariables false
set_option linter.unusedSimpArgs false
set_option maxRecDepth 20000

/-- The least of the first q (the first one to begin with). -/
def LeastUp (l : List Ln) (a : Ln) : Prop := a ∈ l ∧ ∀ c ∈ l, ¬ fstL c a
theorem fst_trans {a b c : Ln} (h1 : fstL a b) (h2 : fstL b c) : fstL a c := by unfold fstL at *; omega
theorem least_take {l : List Ln} {a t : Ln} (h : ∀ c ∈ l, ¬ fstL c a) (ht : fstL t a) : ∀ c ∈ l ++ [t], ¬ fstL c t := fun c hc hf => by
  rcases List.mem_append.1 hc with hc | hc
  · exact h c hc (fst_trans hf ht)
  · rw [List.mem_singleton] at hc
    rw [hc] at hf
    unfold fstL at hf
    omega
theorem least_stay {l : List Ln} {a t : Ln} (h : ∀ c ∈ l, ¬ fstL c a) (ht : ¬ fstL t a) : ∀ c ∈ l ++ [t], ¬ fstL c a := fun c hc hf => by
  rcases List.mem_append.1 hc with hc | hc
  · exact h c hc hf
  · rw [List.mem_singleton] at hc
    rw [hc] at hf
    exact ht hf
/-- What Set answers: the row that bounds, new. -/
def SetOut (l : List Tup) (w : World) (e : Ending) (w' : World) : Prop := ∃ v R, e = .returned v ∧ BSet (heldR l) R ∧ OwnTp w' w.heap.size v (R.map unT) ∧ Below w.heap.size w w'
theorem unT_cells (a : Ln) : (unT a).val = .agg #[.int .u32 (a.o : Int), .int .u64 (a.r : Int), .int .i64 (a.v : Int)] := rfl
/-- The chain so far: whatever goes on from a, the row before it and it bound. -/
def SoFar (ls P : List Ln) (a : Ln) : Prop := (∀ R, Chain ls a R → BSet ls (P ++ R)) ∧ a ∈ ls
theorem soFar_start {ls : List Ln} {a : Ln} (h : IsLeast ls a) : SoFar ls [] a := ⟨fun R hR => .inr ⟨a, h, hR⟩, h.1⟩
theorem soFar_more {ls P : List Ln} {a b : Ln} (h : SoFar ls P a) (hn : IsNext ls a b) (ha : above a b) : SoFar ls (P ++ [a]) b :=
  ⟨fun R hR => by rw [List.append_assoc]; exact h.1 (a :: R) (.more hn ha hR), hn.1⟩
theorem soFar_stop {ls P : List Ln} {a : Ln} (h : SoFar ls P a) (hs : ∀ b, IsNext ls a b → ¬ above a b) : BSet ls (P ++ [a]) := h.1 [a] (.stop hs)
end Go.Proofs.Ytfijlgkgbbemnaa
