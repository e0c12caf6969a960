/- A row of deadlines that the call owns, sorted. -/
import Derived.Test.YtkhhaokelhmikaaAlV
import Derived.Test.YtkhhaokelhmikaaAlW
namespace Go.Proofs.Ytkhhaokelhmikaa
open Go.RowKit Go.Sort Go.Proofs
set_option linter.unusedVariables false
set_option linter.unusedSimpArgs false
set_option maxRecDepth 20000

instance : Inhabited Du := ⟨zD⟩
theorem du_cells (x : Du) : x.cells.length = 2 := rfl
theorem du_one (x : Du) : ∀ v ∈ x.cells, v.oneCell' = true := by
  intro v hv
  simp only [Du.cells, List.mem_cons, List.not_mem_nil, or_false] at hv
  rcases hv with rfl | rfl <;> rfl
def sortD (L : List Du) : List Du := L.mergeSort fun x y => !(ltOf cmpD) y x
theorem sortD_perm (L : List Du) : (sortD L).Perm L := List.mergeSort_perm _ _
theorem sortD_order (L : List Du) : (sortD L).Pairwise fun a b => ltB b a = false := by
  have h := List.pairwise_mergeSort (le := fun x y : Du => !(ltOf cmpD) y x) (fun a b c h1 h2 => by
    simp only [cmpD_lt, Bool.not_eq_true'] at h1 h2 ⊢
    exact ltB_not h2 h1) (fun a b => by
    simp only [cmpD_lt]
    cases h1 : ltB b a with
    | false => rfl
    | true => rw [ltB_asymm h1]; rfl) L
  refine h.imp fun {a b} hab => ?_
  simpa only [cmpD_lt, Bool.not_eq_true'] using hab
theorem sort_own {w : World} {base : Nat} {v : Value} {L : List Du} (h : OwnD w base v L) (hl : L.length < 4611686018427387904) :
    Calls Try.prog 18 #[v, .func (.func 19) #[] #[]] w fun e w' => e = .returned (.tuple #[]) ∧ OwnD w' base v (sortD L) ∧ w.grownBy w' v.ownBlock := by
  rcases h.2 with ⟨rfl, h0⟩ | ⟨g, cap, cur, rfl, hb, hg, h1, h2, h3, h4⟩
  · have hL : L = [] := List.length_eq_zero_iff.1 h0
    subst hL
    refine (AnyF.slices_SortFunc_none laysS none 0 _ w).mono ?_
    rintro e w' ⟨rfl, rfl⟩
    exact ⟨rfl, (by rw [show sortD [] = [] from (sortD_perm []).eq_nil]; exact h), World.grownBy.refl _ _⟩
  · have eg : ∀ args w, (callFunc 19 args).run Try.prog w = .ok (.enter 19 args) w := enters_of Try.func19 (by kernel_rfl) rfl
    have hc := AnyQ.slices_SortFunc_total laysS 2 Try.isAgg35 Try.sizeOf35 Du.cells du_cells du_one cmpD cmpD_order 19 #[] g 0 cap L.toArray w eg (fun _ _ _ _ x y => compare_any x y _) (holdsK_own du_cells hg h4) (Array.getElem?_eq_some_iff.1 hg).1 (by simpa using hl) (fun x y h1 h2 => by
      rw [cmpD_lt] at h1 h2
      exact ltB_eq h1 h2)
    refine hc.mono ?_
    rintro e w' ⟨rfl, n, os, rfl⟩
    have hlen : (sortD L).length = L.length := (sortD_perm L).length_eq
    refine ⟨rfl, ?_, grownBy_sortedK _⟩
    have := ownsRow_sortedK (enc := Du.cells) (k := 2) (os := os) (n := n) du_cells hlen hb hg h1 h2 h3
    unfold OwnD
    rw [hlen]
    exact this
end Go.Proofs.Ytkhhaokelhmikaa
