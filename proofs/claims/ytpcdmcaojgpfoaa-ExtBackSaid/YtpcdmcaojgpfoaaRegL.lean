/- A region that draws its order: operations that read memory which stays. No program's function. -/
import Derived.Test.YtpcdmcaojgpfoaaReg
namespace Go.Proofs.Ytpcdmcaojgpfoaa
open Go.RowKit
set_option linter.unusedVariables false
set_option linter.unusedSimpArgs false
set_option maxRecDepth 20000

/-- An operation that answers one value in any world that keeps what was there, and turns nothing. -/
theorem Obl.pure {P : Program} {ops : Array Oper} {tbl : List Cl} {a0 : Act} {w0 : World} {Q : Exit → Act → World → Prop} {i : Nat} {o : Oper} (hg : gOk ops tbl i o) (v : Value) (ht : tblAt tbl i = .val v)
    (hr : ∀ (ev : Operand → Value) (w : World), Below w0.heap.size w0 w → (∀ x, (clOf ops tbl a0 i x).holds (ev x) w) → (execOp ev o).run P w = .ok (.value v) w) : Obl P ops tbl a0 w0 Q i o :=
  Obl.mk hg fun a w hb hx K hK => by
    have h := hK v w (Below.refl _ _) (by rw [ht]; rfl)
    unfold Oper.wp
    rw [hr a.eval w hb hx]
    exact h
/-- A call that answers one value. -/
theorem Val.holds {w w' : World} {e : Ending} {c : Cl} {v : Value} (hc : c = .val v) (h : e = .returned v ∧ Below w.heap.size w w') : ∃ v, e = .returned v ∧ Below w.heap.size w w' ∧ c.holds v w' := by
  subst hc
  exact ⟨_, h.1, h.2, rfl⟩
theorem eql_strs (l r : List UInt8) (D : Bool) (h : (l == r) = D) (x y : Operand) (w : World) : (do eqGuard .eql 9 x y (.string ⟨l.toArray⟩) (.string ⟨r.toArray⟩); binOp .eql 9 (.string ⟨l.toArray⟩) (.string ⟨r.toArray⟩) : Sem Value).run Try.prog w = .ok (.bool D) w := by
  subst h
  simp [eqGuard, go_sem]
theorem neq_strs (l r : List UInt8) (D : Bool) (h : (l != r) = D) (x y : Operand) (w : World) : (do eqGuard .neq 9 x y (.string ⟨l.toArray⟩) (.string ⟨r.toArray⟩); binOp .neq 9 (.string ⟨l.toArray⟩) (.string ⟨r.toArray⟩) : Sem Value).run Try.prog w = .ok (.bool D) w := by
  subst h
  simp [eqGuard, go_sem, bne]
theorem drew_below (w : World) : Below w.heap.size w w.drew := (Below.refl _ w).drew
end Go.Proofs.Ytpcdmcaojgpfoaa
