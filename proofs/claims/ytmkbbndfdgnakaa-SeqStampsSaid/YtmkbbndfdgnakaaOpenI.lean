/- From a row's reading of a []int to the plain words of Tape. -/
import Derived.Test.YtmkbbndfdgnakaaOpen
import Derived.Test.YtmkbbndfdgnakaaRi
namespace Go.Proofs.Ytmkbbndfdgnakaa
open Go.ChangeShapes Go.WideShapes Go.ChangeAt Go.RowKit
set_option linter.unusedVariables false
set_option linter.unusedSimpArgs false
set_option maxRecDepth 20000

/-- A []int that came in. -/
theorem open_nums {H : Type} {enc : TypeId × Value → H} {W : World} {t e : TypeId} {fuel : Nat} {a : Option Addr} {len cap : Nat} {d : DataW H} {p : List MemPlace}
    (ht : Try.prog.underlying t = some (.slice e)) (he : Try.prog.underlying e = some (.int .i64)) (hc : Try.prog.cellsOf e = 1)
    (h : DataW.trod enc Try.prog W 0 (fun _ => true) true fuel t (Value.slice a len cap).cells.toList = some (d, p))
    : RI W W.heap.size a len cap ∧ ∀ K, (∀ elems spare, d = .slice elems spare → elems.length + spare.length ≤ K) → len ≤ K := by
  rcases open_ints ht he hc h with ⟨hcs, _⟩ | ⟨x, l, c, zs, hcs, _, hl, hm, hz, hx, hcell, hwz⟩
  · simp [Value.cells] at hcs
    obtain ⟨rfl, rfl, rfl⟩ := hcs
    exact ⟨⟨Nat.le_refl _, fun h => absurd h (by omega)⟩, fun K _ => Nat.zero_le _⟩
  · simp [Value.cells] at hcs
    obtain ⟨rfl, rfl, rfl⟩ := hcs
    simp at hz
    simp only [Prod.mk.injEq] at hx
    refine ⟨⟨hl, fun hn => ?_⟩, fun K hK => by
      have := hK _ _ hx.1
      simp only [lits, List.length_map, List.length_take, List.length_drop] at this
      omega⟩
    have h0 := hcell 0 (by omega)
    obtain ⟨b, off, spot⟩ := x
    have hsp : spot = none := by simpa [Addr.add] using World.cell?_spot h0
    subst hsp
    refine ⟨b, off, rfl, by simpa [Addr.add] using World.block_lt_of_cell? W _ h0, fun i hi => ?_⟩
    have e1 : (⟨b, off, none⟩ : Addr).add i = ⟨b, off + i, none⟩ := by unfold Addr.add; split <;> simp_all
    have hi' : i < zs.length := by omega
    refine ⟨zs[i], ?_, ?_⟩
    · have hw := hwz zs[i] (List.getElem_mem hi')
      simpa [Lit.wf, IntKind.min, IntKind.max, IntKind.signed, IntKind.bits, I64] using hw
    · rw [← e1, hcell i hi']
      simp [List.getD, hi']
theorem reach_i64 {H : Type} {ts : List TypeId} {ds : List (DataW H)} {t e : TypeId} (hsz : (DataW.weightsEach Try.prog ts ds).all (· ≤ reachBytes) = true) (j : Nat) (ht : ts[j]? = some t) {d : DataW H} (hd : ds[j]? = some d) (hu : Try.prog.underlying t = some (.slice e)) (hby : Try.prog.bytesOf e = 8) :
    ∀ elems spare, d = .slice elems spare → elems.length + spare.length ≤ 281474976710656 := by
  intro elems spare he
  subst he
  have := sized_slice hsz ht hd hu
  rw [hby] at this
  simp only [reachBytes] at this
  omega
end Go.Proofs.Ytmkbbndfdgnakaa
