/- Tuples in plain words and in memory. No program's function. -/
import Derived.Test.YtibgiahbgfjcnaaRx
namespace Go.Proofs.Ytibgiahbgfjcnaa
open Go.RowKit
set_option linter.unusedVariables false
set_option linter.unusedSimpArgs false
set_option maxRecDepth 20000

structure Tup where
  owner : Nat
  rate : Nat
  over : Int
structure Tup.In (t : Tup) : Prop where
  owner : t.owner < 4294967296
  rate : t.rate < 18446744073709551616
  over : I64 t.over
def Tup.cells (t : Tup) : List Value := [.int .u32 (t.owner : Int), .int .u64 (t.rate : Int), .int .i64 t.over]
def cellsT (l : List Tup) : List Value := l.flatMap Tup.cells
theorem cellsT_len (l : List Tup) : (cellsT l).length = l.length * 3 := flat_length (k := 3) (fun _ => rfl) l
def RT (w : World) (B : Nat) (A : Option Addr) (n c : Nat) (l : List Tup) : Prop := l.length = n ∧ (∀ t ∈ l, t.In) ∧ RX w B A n c 3 (cellsT l)
theorem RT.on {w w' : World} {A : Option Addr} {n c : Nat} {l : List Tup} (h : RT w w.heap.size A n c l) (hb : Below w.heap.size w w') : RT w' w'.heap.size A n c l := ⟨h.1, h.2.1, h.2.2.on hb⟩
theorem RT.below {w w' : World} {B : Nat} {A : Option Addr} {n c : Nat} {l : List Tup} (h : RT w B A n c l) (hb : Below B w w') : RT w' B A n c l := ⟨h.1, h.2.1, h.2.2.below hb⟩
theorem RT.more {w : World} {B B' : Nat} {A : Option Addr} {n c : Nat} {l : List Tup} (h : RT w B A n c l) (hb : B ≤ B') : RT w B' A n c l := ⟨h.1, h.2.1, h.2.2.more hb⟩
theorem RT.nil (w : World) (B : Nat) (A : Option Addr) (c : Nat) : RT w B A 0 c [] := ⟨rfl, by simp, RX.nil _ _ _ _ _⟩
/-- The cells of the q-th tuple, as a walk spells them. -/
theorem RT.at {w : World} {B : Nat} {A : Option Addr} {n c : Nat} {l : List Tup} (h : RT w B A n c l) {q : Nat} (hq : q < l.length) : ∃ b off, A = some ⟨b, off, none⟩ ∧ b < B ∧ w.cell? ⟨b, off + q * 3, none⟩ = some (.int .u32 (l[q].owner : Int)) ∧ w.cell? ⟨b, off + q * 3 + 1, none⟩ = some (.int .u64 (l[q].rate : Int)) ∧ w.cell? ⟨b, off + q * 3 + 2, none⟩ = some (.int .i64 l[q].over) := by
  obtain ⟨b, off, e, hb, hc⟩ := h.2.2.2.2 (by rw [← h.1]; omega)
  have g := fun j hj => flat_get (f := Tup.cells) (k := 3) (fun _ => rfl) l q j hq hj
  refine ⟨b, off, e, hb, ?_, ?_, ?_⟩
  · exact hc (q * 3) _ ((g 0 (by omega)).trans rfl)
  · rw [Nat.add_assoc]; exact hc (q * 3 + 1) _ ((g 1 (by omega)).trans rfl)
  · rw [Nat.add_assoc]; exact hc (q * 3 + 2) _ ((g 2 (by omega)).trans rfl)
end Go.Proofs.Ytibgiahbgfjcnaa
