/- LimitSet's walk: what it stands on. -/
import Derived.Test.YtfijlgkgbbemnaaLmL
import Derived.Test.YtfijlgkgbbemnaaAk14
import Derived.Test.YtfijlgkgbbemnaaAppK
import Derived.Deep.Cut
import Derived.Deep.CutBlock
import Derived.BigQuiet
namespace Go.Proofs.Ytfijlgkgbbemnaa
open Go.RowKit
set_option linter.unusedVariables false
set_option linter.unusedSimpArgs false
set_option maxRecDepth 20000

/-- Small tuples: held, they are themselves. -/
def SmallE (E : Ents) : Prop := ∀ e ∈ E, e.t.rate ≤ 65535 ∧ 0 ≤ e.t.over ∧ e.t.over ≤ 63
theorem SmallE.nil : SmallE [] := fun e h => by cases h
theorem SmallE.put {E : Ents} (h : SmallE E) {e : Ent} (he : e.t.rate ≤ 65535 ∧ 0 ≤ e.t.over ∧ e.t.over ≤ 63) : SmallE (putE E e) := fun x hx => by
  rcases putE_mem hx with h1 | h1
  · rw [h1]; exact he
  · exact h x h1
theorem un_hold {t : Tup} (h : t.rate ≤ 65535 ∧ 0 ≤ t.over ∧ t.over ≤ 63) : unT (holdT t) = t := by
  obtain ⟨o, r, v⟩ := t
  obtain ⟨h1, h2, h3⟩ := h
  simp only at h1 h2 h3
  have e1 : min r 1099511627776 = r := by omega
  have e2 : ((min v.toNat 511 : Nat) : Int) = v := by omega
  show (⟨o, min r 1099511627776, ((min v.toNat 511 : Nat) : Int)⟩ : Tup) = _
  rw [e1, e2]
theorem SmallE.set {E : Ents} (h : SmallE E) {R : List Ln} (hR : BSet (heldR E.T) R) {j : Nat} (hj : j < (R.map unT).length) : ∃ i, ∃ hi : i < E.T.length, E.T[i] = (R.map unT)[j] := by
  have h1 : (R.map unT)[j] ∈ R.map unT := List.getElem_mem hj
  obtain ⟨a, ha, he⟩ := List.mem_map.1 h1
  obtain ⟨t, ht, hte⟩ := List.mem_map.1 (bset_sub hR a ha)
  obtain ⟨x, hx, hxt⟩ := List.mem_map.1 ht
  have h2 : (R.map unT)[j] = t := by rw [← he, ← hte, ← hxt, un_hold (h x hx)]
  rw [h2]
  obtain ⟨i, hi, hie⟩ := List.mem_iff_getElem.1 ht
  exact ⟨i, hi, hie⟩
theorem SortE.at {E : Ents} (h : SortE E) {i j : Nat} (hj : j < E.T.length) (hij : i < j) : (E.T[i]'(by omega)).owner < E.T[j].owner := by
  unfold Ents.T at hj ⊢
  rw [List.length_map] at hj
  simp only [List.getElem_map]
  exact List.pairwise_iff_getElem.1 h i j (by omega) hj hij
theorem Ents.T_in {E : Ents} (h : EntsOk E) : ∀ t ∈ E.T, t.In := fun t ht => by
  obtain ⟨e, he, rfl⟩ := List.mem_map.1 ht
  exact (h.ins e he).t
theorem eql_tup (x y : Tup) : ∃ b : Bool, (x = y → b = true) ∧ ∀ W, (binOp .eql 31 x.val y.val).run Try.prog W = .ok (.bool b) W := by
  have hS : Try.prog.underlying 31 = some (.struct (Try.prog.fieldsOf 31)) := by kernel_rfl
  have hp : Try.prog.stoodInHeld 31 = false := by kernel_rfl
  have u0 := Try.underlying28
  have u1 := Try.underlying29
  have u2 := Try.underlying3
  have a0 := Try.isAgg28
  have a1 := Try.isAgg29
  have a2 := Try.isAgg3
  have z0 := Try.sizeOf28
  have z1 := Try.sizeOf29
  have z2 := Try.sizeOf3
  refine ⟨decide ((x.owner : Int) = (y.owner : Int)) && (decide ((x.rate : Int) = (y.rate : Int)) && decide (x.over = y.over)), fun h => by subst h; simp, fun W => ?_⟩
  rw [run_eql_struct, show (10000 : Nat) = 9999 + 1 from rfl, run_equalIn_agg W 9999 _ _ _ hS hp]
  simp only [Program.fieldsOf, Try.underlying31]
  go_simp
  by_cases h0 : (x.owner : Int) = (y.owner : Int)
  · by_cases h1 : (x.rate : Int) = (y.rate : Int)
    · by_cases h2 : x.over = y.over
      · rw [if_pos h0, if_pos h1, if_pos h2, decide_eq_true h0, decide_eq_true h1, decide_eq_true h2]; rfl
      · rw [if_pos h0, if_pos h1, if_neg h2, decide_eq_true h0, decide_eq_true h1, decide_eq_false h2]; rfl
    · rw [if_pos h0, if_neg h1, decide_eq_true h0, decide_eq_false h1]; rfl
  · rw [if_neg h0, decide_eq_false h0]; rfl
end Go.Proofs.Ytfijlgkgbbemnaa
