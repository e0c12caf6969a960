/- Append onto a row that a call owns: the row as it was stays readable. No program's function. -/
import Derived.Test.YtfijlgkgbbemnaaRx
namespace Go.Proofs.Ytfijlgkgbbemnaa
open Go.RowKit
set_option linter.unusedVariables false
set_option linter.unusedSimpArgs false
set_option maxRecDepth 20000

theorem run_appendK {w : World} (base : Nat) (t ty e : TypeId) (z : Value) (size bytes : Nat) (ht : Try.prog.underlying t = some (.slice e)) (hinfo : (Try.prog.info? e).map (fun i => (i.zero, i.size, i.bytes)) = some (some z, size, bytes)) (hzs : z.cells.size = size) (hsz : 0 < size)
    (v : Value) (n : Nat) (xs : List Value) (hown : w.ownsRow base e size v n xs) (B : Nat) (A : Option Addr) (m c : Nat) (vs : List Value) (hr : RX w B A m c size vs) (h1 : ∀ u ∈ vs, u.oneCell' = true)
    (h63 : n + m ≤ maxLen) (hbytes : (n + m) * bytes ≤ 140737488355328) (hbase : base ≤ w.heap.size) :
    ∃ v' w', (Builtin.append_ #[t, t] ty #[v, .slice A m c]).run Try.prog w = .ok v' w' ∧ AppG w base e size v (n + m) (xs ++ vs) v' w' ∧ w'.ownsRow base e size v n xs := by
  obtain ⟨v', w', hrun, hA⟩ := run_appendX base t ty e z size bytes ht hinfo hzs hsz v n xs hown B A m c vs hr h1 h63 hbytes hbase
  refine ⟨v', w', hrun, hA, hown.1, ?_⟩
  obtain ⟨i0, hi0, hz0, hz1, hz2⟩ := info_parts hinfo
  rcases hown.2 with h | ⟨g, cap, cur, rfl, hbg, hg, hnc, hcm, hcs, htk⟩
  · exact .inl h
  refine .inr ?_
  rcases A with _ | ad
  · have hm : m = 0 := by
      rcases Nat.eq_zero_or_pos m with h0 | h0
      · exact h0
      · obtain ⟨b, off, h, _⟩ := hr.2.2 h0
        cases h
    subst hm
    have h2 := run_append_nil8 w base t ty e i0 size ht hi0 _ n xs hown c
    rw [h2] at hrun
    injection hrun with _ e2
    subst e2
    exact ⟨g, cap, cur, rfl, hbg, hg, hnc, hcm, hcs, htk⟩
  have hcells : ∀ j u, vs[j]? = some u → w.cell? (ad.add j) = some u := by
    intro j u hu
    rcases Nat.eq_zero_or_pos m with h0 | h0
    · have hv : vs = [] := List.eq_nil_of_length_eq_zero (by have := hr.1; rw [h0] at this; omega)
      rw [hv] at hu
      cases hu
    · obtain ⟨ad', h, hc⟩ := hr.src h0
      injection h with h
      subst h
      exact hc j u hu
  have hvl : vs.length = m * i0.size := by rw [hz1]; exact hr.1
  by_cases hroom : n + m ≤ cap
  · have hfit : n * i0.size + vs.length ≤ cur.size := by
      rw [hvl, hcs, hz1, ← Nat.add_mul]
      exact Nat.mul_le_mul_right _ hroom
    have h2 := run_append_room (P := Try.prog) (ty := ty) w t e i0 ht hi0 g n cap cur hg ad m c vs hvl hcells h1 hroom hfit
    rw [h2] at hrun
    injection hrun with _ e2
    subst e2
    refine ⟨g, cap, _, rfl, hbg, setRow_heap w g cur _ e _ hg, hnc, hcm, ?_, ?_⟩
    · simp only [List.size_toArray, List.length_append, List.length_take, List.length_drop, Array.length_toList]
      omega
    · rw [hz1, htk, List.append_assoc, ← hown.1]
      exact List.take_left
  · have holds : ∀ j u, xs[j]? = some u → w.cell? ((⟨g, 0, none⟩ : Addr).add j) = some u := hown.cells (g := g) rfl
    have h2 := run_append_grow (P := Try.prog) (ty := ty) w t e i0 z ht hi0 hz0 ⟨g, 0, none⟩ n cap xs (by rw [hz1]; exact hown.1) holds ad m c vs hvl hcells (by omega) (by simp only [maxLen] at h63; omega) (growslice_fits (by omega) (by rw [hz2]; exact hbytes))
    rw [h2] at hrun
    injection hrun with _ e2
    subst e2
    exact ⟨g, cap, cur, rfl, hbg, (heap_alloc_old w.drew _ (Array.getElem?_eq_some_iff.1 hg).1).trans hg, hnc, hcm, hcs, htk⟩
end Go.Proofs.Ytfijlgkgbbemnaa
