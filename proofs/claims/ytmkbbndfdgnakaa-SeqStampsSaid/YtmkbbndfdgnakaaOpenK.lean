/- From a row's reading of a slice of unsigned numbers to plain words (RK). -/
import Derived.Test.YtmkbbndfdgnakaaOpen
import Derived.Test.YtmkbbndfdgnakaaRk
namespace Go.Proofs.Ytmkbbndfdgnakaa
open Go.ChangeShapes Go.WideShapes Go.ChangeAt Go.RowKit
set_option linter.unusedVariables false
set_option linter.unusedSimpArgs false
set_option maxRecDepth 20000

theorem wf_u16 (z : Int) (h : (Lit.int .u16 z).wf = true) : 0 ≤ z ∧ z < (65536 : Nat) := by
  simp [Lit.wf, IntKind.min, IntKind.max, IntKind.signed, IntKind.bits] at h
  omega
theorem wf_u32 (z : Int) (h : (Lit.int .u32 z).wf = true) : 0 ≤ z ∧ z < (4294967296 : Nat) := by
  simp [Lit.wf, IntKind.min, IntKind.max, IntKind.signed, IntKind.bits] at h
  omega
/-- A slice that came in. -/
theorem open_ks {H : Type} {enc : TypeId × Value → H} {W : World} {t e : TypeId} {fuel : Nat} {a : Option Addr} {len cap : Nat} {d : DataW H} {p : List MemPlace} {q : IntKind} {M : Nat} (hq : ∀ z : Int, (Lit.int q z).wf = true → 0 ≤ z ∧ z < (M : Nat))
    (ht : Try.prog.underlying t = some (.slice e)) (he : Try.prog.underlying e = some (.int q)) (hc : Try.prog.cellsOf e = 1)
    (h : DataW.trod enc Try.prog W 0 (fun _ => true) true fuel t (Value.slice a len cap).cells.toList = some (d, p))
    : ∃ F, RK q M W W.heap.size a len cap F ∧ ∀ K, (∀ elems spare, d = .slice elems spare → elems.length + spare.length ≤ K) → len ≤ K := by
  rcases open_ints ht he hc h with ⟨hcs, _⟩ | ⟨x, l, c, zs, hcs, _, hl, hm, hz, hx, hcell, hwz⟩
  · simp [Value.cells] at hcs
    obtain ⟨rfl, rfl, rfl⟩ := hcs
    exact ⟨fun _ => 0, ⟨Nat.le_refl _, fun i hi => absurd hi (by omega), fun h => absurd h (by omega)⟩, fun K _ => Nat.zero_le _⟩
  · simp [Value.cells] at hcs
    obtain ⟨rfl, rfl, rfl⟩ := hcs
    simp at hz
    simp only [Prod.mk.injEq] at hx
    have hpos : ∀ i (hi : i < zs.length), 0 ≤ zs[i] ∧ zs[i] < (M : Nat) := fun i hi => hq _ (hwz zs[i] (List.getElem_mem hi))
    refine ⟨fun i => (zs.getD i 0).toNat, ⟨hl, fun i hi => ?_, fun hn => ?_⟩, fun K hK => by
      have := hK _ _ hx.1
      simp only [lits, List.length_map, List.length_take, List.length_drop] at this
      omega⟩
    · have hi' : i < zs.length := by omega
      have h1 := hpos i hi'
      show (zs.getD i 0).toNat < _
      rw [show zs.getD i 0 = zs[i] by simp [List.getD, hi']]
      omega
    have h0 := hcell 0 (by omega)
    obtain ⟨b, off, spot⟩ := x
    have hsp : spot = none := by simpa [Addr.add] using World.cell?_spot h0
    subst hsp
    refine ⟨b, off, rfl, by simpa [Addr.add] using World.block_lt_of_cell? W _ h0, fun i hi => ?_⟩
    have e1 : (⟨b, off, none⟩ : Addr).add i = ⟨b, off + i, none⟩ := by unfold Addr.add; split <;> simp_all
    have hi' : i < zs.length := by omega
    have h1 := hpos i hi'
    rw [← e1, hcell i hi']
    have e2 : zs.getD i 0 = zs[i] := by simp [List.getD, hi']
    show some (Value.int q (zs.getD i 0)) = some (Value.int q ((zs.getD i 0).toNat : Int))
    rw [e2, Int.toNat_of_nonneg h1.1]
theorem reach_16 {H : Type} {ts : List TypeId} {ds : List (DataW H)} {t e : TypeId} (hsz : (DataW.weightsEach Try.prog ts ds).all (· ≤ reachBytes) = true) (j : Nat) (ht : ts[j]? = some t) {d : DataW H} (hd : ds[j]? = some d) (hu : Try.prog.underlying t = some (.slice e)) (hby : Try.prog.bytesOf e = 2) :
    ∀ elems spare, d = .slice elems spare → elems.length + spare.length ≤ 281474976710656 := by
  intro elems spare he
  subst he
  have := sized_slice hsz ht hd hu
  rw [hby] at this
  simp only [reachBytes] at this
  omega
theorem reach_32 {H : Type} {ts : List TypeId} {ds : List (DataW H)} {t e : TypeId} (hsz : (DataW.weightsEach Try.prog ts ds).all (· ≤ reachBytes) = true) (j : Nat) (ht : ts[j]? = some t) {d : DataW H} (hd : ds[j]? = some d) (hu : Try.prog.underlying t = some (.slice e)) (hby : Try.prog.bytesOf e = 4) :
    ∀ elems spare, d = .slice elems spare → elems.length + spare.length ≤ 281474976710656 := by
  intro elems spare he
  subst he
  have := sized_slice hsz ht hd hu
  rw [hby] at this
  simp only [reachBytes] at this
  omega
end Go.Proofs.Ytmkbbndfdgnakaa
