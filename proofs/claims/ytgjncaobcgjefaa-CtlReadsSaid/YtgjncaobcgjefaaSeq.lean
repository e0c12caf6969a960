/- A region that keeps its order, by the same invariant: each operation once. No program's function. -/
import Derived.Test.YtgjncaobcgjefaaRegP
namespace Go.Proofs.Ytgjncaobcgjefaa.RP
open Go.RowKit
set_option linter.unusedVariables false
set_option linter.unusedSimpArgs false
set_option maxRecDepth 20000

variable {P : Program} {ops : Array Oper} {a0 : Act} {w0 : World} {Q : Exit → Act → World → Prop}
theorem wp_region_seq {id : Nat} (tbl : List Cl) (ht : tidy ops = true) (hdst : ops.all (fun o => match o.dst with | some d => decide (d < a0.tmps.size) | none => true) = true)
    (hO : ∀ i o, ops[i]? = some o → Obl P ops tbl a0 w0 Q i o)
    (hQ : ∀ a w, Below w0.heap.size w0 w → a.tmps.size = a0.tmps.size → a.defers = a0.defers → (∀ t, (∀ j, dstOf ops j ≠ some t) → a.tmps.getD t undef = a0.tmps.getD t undef) →
      (∀ j d, dstOf ops j = some d → (tblAt tbl j).holds (a.tmps.getD d undef) w) → Q .normal a w) :
    (Code.region id ops false).wp P Q a0 w0 := by
  refine wp_region ?_
  have key : ∀ (n k : Nat) (listed : Array Bool) (a : Act) (w : World), k + n = ops.size → listed.size = ops.size → (∀ j, j < ops.size → (listed.getD j false = true ↔ j < k)) → RInv ops tbl a0 w0 listed a w → wpOps P ops Q (List.range' k n) a w := by
    intro n
    induction n with
    | zero =>
      intro k listed a w hk hls hl h
      refine hQ a w h.ext h.size h.defers h.old fun j d hj => h.vals j d hj ?_
      have hjlt : j < ops.size := by
        rcases Nat.lt_or_ge j ops.size with h' | h'
        · exact h'
        · simp [dstOf, Array.getElem?_eq_none h'] at hj
      exact (hl j hjlt).2 (by omega)
    | succ n ih =>
      intro k listed a w hk hls hl h
      have hkl : k < ops.size := by omega
      rw [List.range'_succ]
      obtain ⟨o, ho⟩ : ∃ o, ops[k]? = some o := ⟨_, Array.getElem?_eq_getElem hkl⟩
      have hd : ∀ e ∈ o.after, Region.binds .any e = true → listed.getD e.on false = true := fun e he hb => by
        have := tidy_edge ht ho he hb
        exact (hl e.on (by omega)).2 this
      have h1 : listed.getD k true = false := by
        have h2 : ¬ listed.getD k false = true := fun e => by have := (hl k hkl).1 e; omega
        rw [Array.getD_eq_getD_getElem?, Array.getElem?_eq_getElem (by omega)] at h2 ⊢
        simpa using h2
      have hin : ∀ d, o.dst = some d → d < a0.tmps.size := by
        intro d hdd
        have := Array.all_eq_true_iff_forall_mem.1 hdst o (Array.mem_of_getElem? ho)
        simpa [hdd] using this
      have hgo := hO k o ho a w h.ext (fun x => h.claim ho hd h1 x) (fun j b hdep hj hs => h.guard ho hd j b hdep hj hs) (wpOps P ops Q (List.range' (k + 1) n)) (fun v w' hb hv => ih (k + 1) _ _ _ (by omega) (by simp [hls]) (fun j hj => by
        by_cases hjk : j = k
        · subst hjk
          rw [Array.getD_eq_getD_getElem?, Array.getElem?_setIfInBounds_self, if_pos (by omega)]
          simp
        · rw [Array.getD_eq_getD_getElem?, Array.getElem?_setIfInBounds_ne (fun e => hjk e.symm), ← Array.getD_eq_getD_getElem?, hl j hj]
          omega) (h.put ht hls ho hd hin hb hv))
      unfold wpOps
      rw [ho]
      simp only
      split
      · rename_i hw
        rw [if_pos hw] at hgo
        exact .inl hgo
      · rename_i hw
        rw [if_neg hw] at hgo
        exact hgo
  rw [List.range_eq_range']
  refine key ops.size 0 (Array.replicate ops.size false) a0 w0 (by omega) (by simp) (fun j hj => ?_) ⟨Below.refl _ _, rfl, rfl, fun _ _ => rfl, fun j d hj hl => ?_, fun _ _ _ _ _ _ => rfl⟩
  · rw [Array.getD_eq_getD_getElem?]
    simp [hj]
  · rw [Array.getD_eq_getD_getElem?] at hl
    by_cases hjl : j < ops.size
    · simp [hjl] at hl
    · simp [hjl] at hl
end Go.Proofs.Ytgjncaobcgjefaa.RP
