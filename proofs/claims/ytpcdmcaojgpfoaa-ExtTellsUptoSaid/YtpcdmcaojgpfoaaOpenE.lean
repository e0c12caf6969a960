/- From a row's reading of a []api.Elem to the plain words of AppG. -/
import Derived.Test.YtpcdmcaojgpfoaaOpenI
import Derived.Test.YtpcdmcaojgpfoaaAppG
import Derived.Deep.Slices
namespace Go.Proofs.Ytpcdmcaojgpfoaa
open Go.ChangeShapes Go.WideShapes Go.ChangeAt Go.RowKit Go.Deep
set_option linter.unusedVariables false
set_option linter.unusedSimpArgs false
set_option maxRecDepth 20000

section
variable {H : Type} {enc : TypeId × Value → H} {W : World}
/-- A cell that reads as a []byte: a slice value that reads as bytes; how many, by the datum. -/
theorem cell_bytes {fuel : Nat} {v : Value} {y : DataW H × List MemPlace} (h : DataW.trod enc Try.prog W 0 (fun _ => true) true fuel 26 [v] = some y) :
    ∃ A n c l, v = .slice A n c ∧ R8 W W.heap.size A n c l ∧ ∀ K, (∀ elems spare, y.1 = .slice elems spare → elems.length + spare.length ≤ K) → n ≤ K := by
  obtain ⟨d, p⟩ := y
  have hv : ∃ A n c, v = .slice A n c := by
    rcases open_ints Try.underlying26 Try.underlying5 (by kernel_rfl) h with ⟨e, _⟩ | ⟨x, l, c, zs, e, _⟩
    · exact ⟨none, 0, 0, by simpa using e⟩
    · exact ⟨some x, l, c, by simpa using e⟩
  obtain ⟨A, n, c, rfl⟩ := hv
  obtain ⟨l, h1, h2⟩ := open_bytes Try.underlying26 Try.underlying5 (by kernel_rfl) (show DataW.trod enc Try.prog W 0 (fun _ => true) true fuel 26 (Value.slice A n c).cells.toList = some (d, p) from h)
  exact ⟨A, n, c, l, rfl, h1, h2⟩
theorem elem_cells : Try.prog.cellsOf 51 = 2 := by kernel_rfl
/-- One element, where its two cells read. -/
theorem open_elem {fuel : Nat} {cs : List Value} {y : DataW H × List MemPlace} (h : DataW.trod enc Try.prog W 0 (fun _ => true) true fuel 51 cs = some y) :
    ∃ x : El, cs = x.cells ∧ I64 x.id ∧ R8 W W.heap.size x.A x.d.length x.c x.d ∧ ∃ d0 d1, y.1 = .agg [d0, d1] ∧ ∀ K, (∀ elems spare, d1 = .slice elems spare → elems.length + spare.length ≤ K) → x.d.length ≤ K := by
  obtain ⟨xs, n, _, hy, hlen, hxs, hf⟩ := DataW.trod_struct Try.underlying51 h
  rw [elem_cells] at hlen
  match cs, hlen with
  | [v0, v1], _ =>
    match xs, hxs with
    | [y0, y1], _ =>
      have h0 : DataW.trod enc Try.prog W 0 (fun _ => true) true n 3 [v0] = some y0 := hf 0 _ rfl
      have h1 : DataW.trod enc Try.prog W 0 (fun _ => true) true n 26 [v1] = some y1 := hf 1 _ rfl
      obtain ⟨z, hz, _, hw⟩ := DataW.trod_int Try.underlying3 h0
      obtain ⟨A, m, c, l, rfl, hr, hk⟩ := cell_bytes h1
      have hz' : v0 = .int .i64 z := by simpa using hz
      subst hz'
      have hm := hr.1
      subst hm
      exact ⟨⟨z, A, c, l⟩, rfl, I64.of_wf hw, hr, y0.1, y1.1, by simp [hy], hk⟩
/-- A []api.Elem that came in. -/
theorem open_elems {fuel : Nat} {a : Option Addr} {len cap : Nat} {d : DataW H} {p : List MemPlace}
    (h : DataW.trod enc Try.prog W 0 (fun _ => true) true fuel 44 (Value.slice a len cap).cells.toList = some (d, p))
    : ∃ E : List El, RE W W.heap.size a len cap E ∧ ∀ K, (∀ elems spare, d = .slice elems spare → elems.length + spare.length ≤ K ∧ ∀ x ∈ elems, ∀ d0 e1 s1, x = .agg [d0, .slice e1 s1] → e1.length + s1.length ≤ K) → len ≤ K ∧ ∀ x ∈ E, x.d.length ≤ K := by
  rcases open_slice Try.underlying44 h with ⟨hcs, _⟩ | ⟨x, l, c, m, n, D, Pl, hcs, _, hl, hm, hmm, hx, hi⟩
  · simp [Value.cells] at hcs
    obtain ⟨rfl, rfl, rfl⟩ := hcs
    exact ⟨[], RE.nil _ _ _ _, fun K _ => ⟨Nat.zero_le _, by simp⟩⟩
  · simp [Value.cells] at hcs
    obtain ⟨rfl, rfl, rfl⟩ := hcs
    simp only [if_true] at hmm
    subst hmm
    simp only [Prod.mk.injEq] at hx
    have each : ∀ i, ∃ e : El, i < len → (∀ j v, e.cells[j]? = some v → W.cell? (x.add (i * 2 + j)) = some v) ∧ I64 e.id ∧ R8 W W.heap.size e.A e.d.length e.c e.d ∧ ∃ d0 d1, D i = .agg [d0, d1] ∧ ∀ K, (∀ elems spare, d1 = .slice elems spare → elems.length + spare.length ≤ K) → e.d.length ≤ K := fun i => by
      by_cases hil : i < len
      · obtain ⟨cs', hc, ht⟩ := hi i (by omega)
        rw [elem_cells] at hc
        obtain ⟨_, hcl, hat⟩ := World.cells?_some hc
        obtain ⟨e, rfl, h1, h2, h3⟩ := open_elem ht
        refine ⟨e, fun _ => ⟨fun j v hj => ?_, h1, h2, h3⟩⟩
        have hj2 : j < 2 := (List.getElem?_eq_some_iff.1 hj).1
        rw [← Go.Deep.add_add, hat j hj2, hj]
      · exact ⟨⟨0, none, 0, []⟩, fun h => absurd h hil⟩
    obtain ⟨F, hF⟩ := Classical.axiomOfChoice each
    refine ⟨(List.range len).map F, ⟨by simp, hl, fun e he => ?_, fun hn => ?_⟩, fun K hK => ?_⟩
    · obtain ⟨i, hi', rfl⟩ := List.mem_map.1 he
      have := hF i (List.mem_range.1 hi')
      exact ⟨this.2.1, this.2.2.1⟩
    · obtain ⟨b, off, spot⟩ := x
      have h0 := (hF 0 hn).1 0 _ rfl
      have hsp : spot = none := by simpa [Addr.add] using World.cell?_spot h0
      subst hsp
      refine ⟨b, off, rfl, by simpa [Addr.add] using World.block_lt_of_cell? W _ h0, fun j v hj => ?_⟩
      have hjl : j < ((List.range len).map F).length * 2 := by
        rw [← cellsE_len]
        exact (List.getElem?_eq_some_iff.1 hj).1
      rw [List.length_map, List.length_range] at hjl
      have hq : j / 2 < ((List.range len).map F).length := by simp; omega
      obtain ⟨k1, k2⟩ := cellsE_get ((List.range len).map F) (j / 2) hq
      have hFq : ((List.range len).map F)[j / 2] = F (j / 2) := by simp
      rw [hFq] at k1 k2
      have hc := (hF (j / 2) (by omega)).1
      have e1 : ∀ k, (⟨b, off, none⟩ : Addr).add k = ⟨b, off + k, none⟩ := fun k => by unfold Addr.add; split <;> simp_all
      rcases Nat.mod_two_eq_zero_or_one j with hm2 | hm2
      · have hj2 : j = 2 * (j / 2) := by omega
        rw [hj2] at hj ⊢
        rw [k1] at hj
        have := hc 0 v hj
        rw [e1] at this
        rw [show off + 2 * (j / 2) = off + (j / 2 * 2 + 0) by omega]
        exact this
      · have hj2 : j = 2 * (j / 2) + 1 := by omega
        rw [hj2] at hj ⊢
        rw [k2] at hj
        have := hc 1 v hj
        rw [e1] at this
        rw [show off + (2 * (j / 2) + 1) = off + (j / 2 * 2 + 1) by omega]
        exact this
    · obtain ⟨h1, h2⟩ := hK _ _ hx.1
      refine ⟨by simp at h1; omega, fun e he => ?_⟩
      obtain ⟨i, hi', rfl⟩ := List.mem_map.1 he
      have hil := List.mem_range.1 hi'
      obtain ⟨_, _, _, d0, d1, hD, hk⟩ := hF i hil
      refine hk K fun e1 s1 hd => ?_
      subst hd
      exact h2 (D i) (List.mem_map_of_mem hi') d0 e1 s1 hD
/-- What the second form's bound gives, of a slice of elements among the arguments. -/
theorem bulk_elems {l : List (DataW H)} (hk : Rows.uptoSmall H l = true) {d : DataW H} (h : d ∈ l) : ∀ elems spare, d = .slice elems spare → elems.length + spare.length ≤ 1048576 ∧ ∀ x ∈ elems, ∀ d0 e1 s1, x = .agg [d0, .slice e1 s1] → e1.length + s1.length ≤ 1048576 := by
  intro elems spare he
  refine ⟨bulk_slice hk h elems spare he, fun x hx d0 e1 s1 hx' => ?_⟩
  subst he hx'
  have h0 : Rows.uptoBulkAll l ≤ 1048576 := by simpa [Rows.uptoSmall] using hk
  have h1 := part_le h
  simp only [Rows.uptoBulk] at h1
  have h2 := part_le hx
  simp only [Rows.uptoBulk, Rows.uptoBulkAll] at h2
  have h3 := length_le_bulk e1
  have h4 := length_le_bulk s1
  omega
end
end Go.Proofs.Ytpcdmcaojgpfoaa
