/- From a row's reading of an argument to the plain words of Mem. From a row's reading of a []int to the plain words of Tape. From a row's reading of a []uint64 to plain words (RU). From a row's reading of a slice of tuples to the plain words of Tup. From a row's reading of a slice of asks to the plain words of Ak14. -/
import Derived.Test.YtfijlgkgbbemnaaMem
import Derived.ProofKit
import Derived.OpenShut
import Derived.ShutString
import Derived.ChangeOld
import Derived.SizedLaws
import Derived.JoinedCond
import Derived.Deep.CondSized
import Derived.Test.YtfijlgkgbbemnaaRi
import Derived.Test.YtfijlgkgbbemnaaRu
import Derived.Test.YtfijlgkgbbemnaaBdM
import Derived.Deep.Slices
import Derived.Test.YtfijlgkgbbemnaaAk14
namespace Go.Proofs.Ytfijlgkgbbemnaa
open Go.ChangeShapes Go.WideShapes Go.ChangeAt Go.RowKit
set_option linter.unusedVariables false
set_option linter.unusedSimpArgs false
set_option maxRecDepth 20000

theorem laidOut : laidOutB Try.prog = true := by kernel_rfl
theorem ownK : ownKnob Try.prog.godebug = none := by kernel_rfl

theorem byte_of_wf {n : Int} (h : (Lit.int .u8 n).wf = true) : ((UInt8.ofNat n.toNat).toNat : Int) = n := by
  have : 0 ≤ n ∧ n ≤ 255 := by simpa [Lit.wf, IntKind.min, IntKind.max, IntKind.signed, IntKind.bits] using h
  rw [UInt8.toNat_ofNat']
  omega
/-- A []byte that came in. -/
theorem open_bytes {H : Type} {enc : TypeId × Value → H} {W : World} {t e : TypeId} {fuel : Nat} {a : Option Addr} {len cap : Nat} {d : DataW H} {p : List MemPlace}
    (ht : Try.prog.underlying t = some (.slice e)) (he : Try.prog.underlying e = some (.int .u8)) (hc : Try.prog.cellsOf e = 1)
    (h : DataW.trod enc Try.prog W 0 (fun _ => true) true fuel t (Value.slice a len cap).cells.toList = some (d, p))
    : ∃ l : List UInt8, R8 W W.heap.size a len cap l ∧ ∀ K, (∀ elems spare, d = .slice elems spare → elems.length + spare.length ≤ K) → len ≤ K := by
  rcases open_ints ht he hc h with ⟨hcs, _⟩ | ⟨x, l, c, zs, hcs, _, hl, hm, hz, hx, hcell, hwz⟩
  · simp [Value.cells] at hcs
    obtain ⟨rfl, rfl, rfl⟩ := hcs
    exact ⟨[], R8.nil _ _ _ _, fun K _ => Nat.zero_le _⟩
  · simp [Value.cells] at hcs
    obtain ⟨rfl, rfl, rfl⟩ := hcs
    simp at hz
    simp only [Prod.mk.injEq] at hx
    refine ⟨(zs.take len).map fun n => UInt8.ofNat n.toNat, ⟨by simp; omega, hl, fun hn => ?_⟩, fun K hK => by
      have := hK _ _ hx.1
      simp only [lits, List.length_map, List.length_take, List.length_drop] at this
      omega⟩
    have h0 := hcell 0 (by omega)
    obtain ⟨b, off, spot⟩ := x
    have hsp : spot = none := by simpa [Addr.add] using World.cell?_spot h0
    subst hsp
    refine ⟨b, off, rfl, by simpa [Addr.add] using World.block_lt_of_cell? W _ h0, fun i hi => ?_⟩
    have e1 : (⟨b, off, none⟩ : Addr).add i = ⟨b, off + i, none⟩ := by unfold Addr.add; split <;> simp_all
    have hi' : i < zs.length := by omega
    rw [← e1, hcell i hi']
    have hb := byte_of_wf (hwz zs[i] (List.getElem_mem hi'))
    simp only [List.getD, List.getElem?_map, List.getElem?_take, hi, if_true, List.getElem?_eq_getElem hi', Option.map_some, Option.getD_some]
    rw [hb]
/-- The form's own reach, of a slice of bytes. -/
theorem reach_u8 {H : Type} {ts : List TypeId} {ds : List (DataW H)} {t e : TypeId} (hsz : (DataW.weightsEach Try.prog ts ds).all (· ≤ reachBytes) = true) (j : Nat) (ht : ts[j]? = some t) {d : DataW H} (hd : ds[j]? = some d) (hu : Try.prog.underlying t = some (.slice e)) (hby : Try.prog.bytesOf e = 1) :
    ∀ elems spare, d = .slice elems spare → elems.length + spare.length ≤ 140737488351232 := by
  intro elems spare he
  subst he
  have := sized_slice hsz ht hd hu
  rw [hby] at this
  simp only [reachBytes] at this
  omega

/-! ### What the second form's bound gives -/
theorem one_le {H : Type} (d : DataW H) : 1 ≤ Rows.uptoBulk d := by
  cases d with
  | lit l => cases l <;> simp [Rows.uptoBulk]
  | nil => simp [Rows.uptoBulk]
  | ptr d => simp [Rows.uptoBulk]
  | slice elems spare => simp [Rows.uptoBulk]
  | agg parts => simp [Rows.uptoBulk]
  | iface t d => simp [Rows.uptoBulk]
  | map entries => simp [Rows.uptoBulk]
  | held h => simp [Rows.uptoBulk]
theorem part_le {H : Type} {d : DataW H} {l : List (DataW H)} (h : d ∈ l) : Rows.uptoBulk d ≤ Rows.uptoBulkAll l := by
  induction l with
  | nil => cases h
  | cons x r ih =>
    simp only [Rows.uptoBulkAll]
    cases List.mem_cons.1 h with
    | inl e => subst e; omega
    | inr e => have := ih e; omega
theorem length_le_bulk {H : Type} (l : List (DataW H)) : l.length ≤ Rows.uptoBulkAll l := by
  induction l with
  | nil => simp [Rows.uptoBulkAll]
  | cons x r ih => have := one_le x; simp only [Rows.uptoBulkAll, List.length_cons]; omega
/-- .. of a slice among the arguments. -/
theorem bulk_slice {H : Type} {l : List (DataW H)} (hk : Rows.uptoSmall H l = true) {d : DataW H} (h : d ∈ l) : ∀ elems spare, d = .slice elems spare → elems.length + spare.length ≤ 1048576 := by
  intro elems spare he
  subst he
  have h0 : Rows.uptoBulkAll l ≤ 1048576 := by simpa [Rows.uptoSmall] using hk
  have h1 := part_le h
  have h2 := length_le_bulk elems
  have h3 := length_le_bulk spare
  simp only [Rows.uptoBulk] at h1
  omega
theorem bulk_string {H : Type} {l : List (DataW H)} (hk : Rows.uptoSmall H l = true) {bytes : List UInt8} (h : DataW.lit (.string bytes) ∈ l) : bytes.length ≤ 1048576 := by
  have h0 : Rows.uptoBulkAll l ≤ 1048576 := by simpa [Rows.uptoSmall] using hk
  have h1 := part_le h
  simp only [Rows.uptoBulk] at h1
  omega
theorem u64_nat {n : Int} (h : (Lit.int .u64 n).wf = true) : ∃ x : Nat, n = x ∧ x < 18446744073709551616 := by
  have : 0 ≤ n ∧ n ≤ 18446744073709551615 := by simpa [Lit.wf, IntKind.min, IntKind.max, IntKind.signed, IntKind.bits] using h
  exact ⟨n.toNat, by omega, by omega⟩
end Go.Proofs.Ytfijlgkgbbemnaa
namespace Go.Proofs.Ytfijlgkgbbemnaa
open Go.ChangeShapes Go.WideShapes Go.ChangeAt Go.RowKit
set_option linter.unusedVariables false
set_option linter.unusedSimpArgs false
set_option maxRecDepth 20000

/-- A []int that came in. -/
theorem open_nums {H : Type} {enc : TypeId × Value → H} {W : World} {t e : TypeId} {fuel : Nat} {a : Option Addr} {len cap : Nat} {d : DataW H} {p : List MemPlace}
    (ht : Try.prog.underlying t = some (.slice e)) (he : Try.prog.underlying e = some (.int .i64)) (hc : Try.prog.cellsOf e = 1)
    (h : DataW.trod enc Try.prog W 0 (fun _ => true) true fuel t (Value.slice a len cap).cells.toList = some (d, p))
    : RI W W.heap.size a len cap ∧ ∀ K, (∀ elems spare, d = .slice elems spare → elems.length + spare.length ≤ K) → len ≤ K := by
  rcases open_ints ht he hc h with ⟨hcs, _⟩ | ⟨x, l, c, zs, hcs, _, hl, hm, hz, hx, hcell, hwz⟩
  · simp [Value.cells] at hcs
    obtain ⟨rfl, rfl, rfl⟩ := hcs
    exact ⟨⟨Nat.le_refl _, fun h => absurd h (by omega)⟩, fun K _ => Nat.zero_le _⟩
  · simp [Value.cells] at hcs
    obtain ⟨rfl, rfl, rfl⟩ := hcs
    simp at hz
    simp only [Prod.mk.injEq] at hx
    refine ⟨⟨hl, fun hn => ?_⟩, fun K hK => by
      have := hK _ _ hx.1
      simp only [lits, List.length_map, List.length_take, List.length_drop] at this
      omega⟩
    have h0 := hcell 0 (by omega)
    obtain ⟨b, off, spot⟩ := x
    have hsp : spot = none := by simpa [Addr.add] using World.cell?_spot h0
    subst hsp
    refine ⟨b, off, rfl, by simpa [Addr.add] using World.block_lt_of_cell? W _ h0, fun i hi => ?_⟩
    have e1 : (⟨b, off, none⟩ : Addr).add i = ⟨b, off + i, none⟩ := by unfold Addr.add; split <;> simp_all
    have hi' : i < zs.length := by omega
    refine ⟨zs[i], ?_, ?_⟩
    · have hw := hwz zs[i] (List.getElem_mem hi')
      simpa [Lit.wf, IntKind.min, IntKind.max, IntKind.signed, IntKind.bits, I64] using hw
    · rw [← e1, hcell i hi']
      simp [List.getD, hi']
theorem reach_i64 {H : Type} {ts : List TypeId} {ds : List (DataW H)} {t e : TypeId} (hsz : (DataW.weightsEach Try.prog ts ds).all (· ≤ reachBytes) = true) (j : Nat) (ht : ts[j]? = some t) {d : DataW H} (hd : ds[j]? = some d) (hu : Try.prog.underlying t = some (.slice e)) (hby : Try.prog.bytesOf e = 8) :
    ∀ elems spare, d = .slice elems spare → elems.length + spare.length ≤ 281474976710656 := by
  intro elems spare he
  subst he
  have := sized_slice hsz ht hd hu
  rw [hby] at this
  simp only [reachBytes] at this
  omega
end Go.Proofs.Ytfijlgkgbbemnaa
namespace Go.Proofs.Ytfijlgkgbbemnaa
open Go.ChangeShapes Go.WideShapes Go.ChangeAt Go.RowKit
set_option linter.unusedVariables false
set_option linter.unusedSimpArgs false
set_option maxRecDepth 20000

/-- A []uint64 that came in. -/
theorem open_u64s {H : Type} {enc : TypeId × Value → H} {W : World} {t e : TypeId} {fuel : Nat} {a : Option Addr} {len cap : Nat} {d : DataW H} {p : List MemPlace}
    (ht : Try.prog.underlying t = some (.slice e)) (he : Try.prog.underlying e = some (.int .u64)) (hc : Try.prog.cellsOf e = 1)
    (h : DataW.trod enc Try.prog W 0 (fun _ => true) true fuel t (Value.slice a len cap).cells.toList = some (d, p))
    : ∃ F, RU W W.heap.size a len cap F ∧ ∀ K, (∀ elems spare, d = .slice elems spare → elems.length + spare.length ≤ K) → len ≤ K := by
  rcases open_ints ht he hc h with ⟨hcs, _⟩ | ⟨x, l, c, zs, hcs, _, hl, hm, hz, hx, hcell, hwz⟩
  · simp [Value.cells] at hcs
    obtain ⟨rfl, rfl, rfl⟩ := hcs
    exact ⟨fun _ => 0, ⟨Nat.le_refl _, fun i hi => absurd hi (by omega), fun h => absurd h (by omega)⟩, fun K _ => Nat.zero_le _⟩
  · simp [Value.cells] at hcs
    obtain ⟨rfl, rfl, rfl⟩ := hcs
    simp at hz
    simp only [Prod.mk.injEq] at hx
    have hpos : ∀ i (hi : i < zs.length), 0 ≤ zs[i] ∧ zs[i] ≤ 18446744073709551615 := fun i hi => by
      have hw := hwz zs[i] (List.getElem_mem hi)
      simpa [Lit.wf, IntKind.min, IntKind.max, IntKind.signed, IntKind.bits] using hw
    refine ⟨fun i => (zs.getD i 0).toNat, ⟨hl, fun i hi => ?_, fun hn => ?_⟩, fun K hK => by
      have := hK _ _ hx.1
      simp only [lits, List.length_map, List.length_take, List.length_drop] at this
      omega⟩
    · have hi' : i < zs.length := by omega
      have h1 := hpos i hi'
      show (zs.getD i 0).toNat < _
      rw [show zs.getD i 0 = zs[i] by simp [List.getD, hi']]
      omega
    have h0 := hcell 0 (by omega)
    obtain ⟨b, off, spot⟩ := x
    have hsp : spot = none := by simpa [Addr.add] using World.cell?_spot h0
    subst hsp
    refine ⟨b, off, rfl, by simpa [Addr.add] using World.block_lt_of_cell? W _ h0, fun i hi => ?_⟩
    have e1 : (⟨b, off, none⟩ : Addr).add i = ⟨b, off + i, none⟩ := by unfold Addr.add; split <;> simp_all
    have hi' : i < zs.length := by omega
    have h1 := hpos i hi'
    rw [← e1, hcell i hi']
    have e2 : zs.getD i 0 = zs[i] := by simp [List.getD, hi']
    show some (Value.int .u64 (zs.getD i 0)) = some (Value.int .u64 ((zs.getD i 0).toNat : Int))
    rw [e2, Int.toNat_of_nonneg h1.1]
end Go.Proofs.Ytfijlgkgbbemnaa
namespace Go.Proofs.Ytfijlgkgbbemnaa
open Go.ChangeShapes Go.WideShapes Go.ChangeAt Go.RowKit Go.Deep
set_option linter.unusedVariables false
set_option linter.unusedSimpArgs false
set_option maxRecDepth 20000

section
variable {H : Type} {enc : TypeId × Value → H} {W : World}
theorem weights_at {ts : List TypeId} {ds : List (DataW H)} (hsz : (DataW.weightsEach Try.prog ts ds).all (· ≤ reachBytes) = true) (j : Nat) {t : TypeId} {d : DataW H} (ht : ts[j]? = some t) (hd : ds[j]? = some d) : (d.weights Try.prog t).all (· ≤ reachBytes) = true :=
  List.all_eq_true.2 fun n hn => List.all_eq_true.1 hsz n (DataW.weights_mem_each ht hd n hn)
theorem weights_all {e : TypeId} : ∀ {l : List (DataW H)}, (DataW.weightsAll Try.prog e l).all (· ≤ reachBytes) = true → ∀ d ∈ l, (d.weights Try.prog e).all (· ≤ reachBytes) = true
  | [], _, d, hd => by cases hd
  | x :: r, h, d, hd => by
    simp only [DataW.weightsAll, List.all_append, Bool.and_eq_true] at h
    rcases List.mem_cons.1 hd with rfl | hd
    · exact h.1
    · exact weights_all h.2 d hd
theorem tupT_cells : Try.prog.cellsOf 31 = 3 := by kernel_rfl
theorem tupT_bytes : Try.prog.bytesOf 31 = 24 := by kernel_rfl
theorem open_tupc {fuel : Nat} {cs : List Value} {y : DataW H × List MemPlace} (h : DataW.trod enc Try.prog W 0 (fun _ => true) true fuel 31 cs = some y) : ∃ x : Tup, cs = x.cells ∧ x.In := by
  obtain ⟨xs, n, _, hy, hlen, hxs, hf⟩ := DataW.trod_struct Try.underlying31 h
  rw [tupT_cells] at hlen
  match cs, hlen with
  | [v0, v1, v2], _ =>
    match xs, hxs with
    | [y0, y1, y2], _ =>
      have t0 : DataW.trod enc Try.prog W 0 (fun _ => true) true n 28 [v0] = some y0 := hf 0 _ rfl
      have t1 : DataW.trod enc Try.prog W 0 (fun _ => true) true n 29 [v1] = some y1 := hf 1 _ rfl
      have t2 : DataW.trod enc Try.prog W 0 (fun _ => true) true n 3 [v2] = some y2 := hf 2 _ rfl
      obtain ⟨z0, e0, _, w0⟩ := DataW.trod_int Try.underlying28 t0
      obtain ⟨z1, e1, _, w1⟩ := DataW.trod_int Try.underlying29 t1
      obtain ⟨z2, e2, _, w2⟩ := DataW.trod_int Try.underlying3 t2
      have hv0 : v0 = .int .u32 z0 := by simpa using e0
      have hv1 : v1 = .int .u64 z1 := by simpa using e1
      have hv2 : v2 = .int .i64 z2 := by simpa using e2
      subst hv0 hv1 hv2
      obtain ⟨k, rfl, hk⟩ : ∃ k : Nat, z1 = (k : Int) ∧ k < 18446744073709551616 := by
        have : 0 ≤ z1 ∧ z1 ≤ 18446744073709551615 := by simpa [Lit.wf, IntKind.min, IntKind.max, IntKind.signed, IntKind.bits] using w1
        exact ⟨z1.toNat, by omega, by omega⟩
      obtain ⟨o, rfl, ho⟩ : ∃ k : Nat, z0 = (k : Int) ∧ k < 4294967296 := by
        have : 0 ≤ z0 ∧ z0 ≤ 4294967295 := by simpa [Lit.wf, IntKind.min, IntKind.max, IntKind.signed, IntKind.bits] using w0
        exact ⟨z0.toNat, by omega, by omega⟩
      exact ⟨⟨o, k, z2⟩, rfl, ⟨ho, hk, I64.of_wf w2⟩⟩
/-- A slice of tuples that came in. -/
theorem open_tups {fuel : Nat} {a : Option Addr} {len cap : Nat} {d : DataW H} {p : List MemPlace} (h : DataW.trod enc Try.prog W 0 (fun _ => true) true fuel 46 (Value.slice a len cap).cells.toList = some (d, p)) (hw : (d.weights Try.prog 46).all (· ≤ reachBytes) = true) :
    ∃ l : List Tup, RT W W.heap.size a len cap l ∧ len ≤ 5864062014805 := by
  rcases open_slice Try.underlying46 h with ⟨e, _⟩ | ⟨x, l, c, m, n, D, Pl, e, _, hl, hm, hmm, hx, hi⟩
  · simp [Value.cells] at e
    obtain ⟨rfl, rfl, rfl⟩ := e
    exact ⟨[], RT.nil _ _ _ _, Nat.zero_le _⟩
  · simp [Value.cells] at e
    obtain ⟨rfl, rfl, rfl⟩ := e
    simp only [if_true] at hmm
    subst hmm
    have hd := congrArg Prod.fst hx
    simp only at hd
    have hw' := hw
    rw [hd] at hw'
    simp only [DataW.weights, Try.underlying46, List.all_cons, List.all_append, Bool.and_eq_true, decide_eq_true_eq, List.length_map, List.length_range] at hw'
    obtain ⟨hbz, _⟩ := hw'
    rw [tupT_bytes] at hbz
    simp only [reachBytes] at hbz
    have each : ∀ i, ∃ t : Tup, i < len → (∀ j u, t.cells[j]? = some u → W.cell? (x.add (i * 3 + j)) = some u) ∧ t.In := fun i => by
      by_cases hil : i < len
      · obtain ⟨cs', hc, ht⟩ := hi i (by omega)
        rw [tupT_cells] at hc
        obtain ⟨_, hcl, hat⟩ := World.cells?_some hc
        obtain ⟨t, rfl, h1⟩ := open_tupc ht
        refine ⟨t, fun _ => ⟨fun j u hj => ?_, h1⟩⟩
        have hj3 : j < 3 := (List.getElem?_eq_some_iff.1 hj).1
        rw [← Go.Deep.add_add, hat j hj3, hj]
      · exact ⟨zT, fun h => absurd h hil⟩
    obtain ⟨F, hF⟩ := Classical.axiomOfChoice each
    refine ⟨(List.range len).map F, ⟨by simp, fun t ht => ?_, by rw [cellsT_len]; simp, hl, fun hn => ?_⟩, by omega⟩
    · obtain ⟨i, hi', rfl⟩ := List.mem_map.1 ht
      exact (hF i (List.mem_range.1 hi')).2
    · obtain ⟨b, off, spot⟩ := x
      have h0 := (hF 0 hn).1 0 _ rfl
      have hsp : spot = none := by simpa [Addr.add] using World.cell?_spot h0
      subst hsp
      refine ⟨b, off, rfl, by simpa [Addr.add] using World.block_lt_of_cell? W _ h0, fun j u hj => ?_⟩
      have hjl : j < ((List.range len).map F).length * 3 := by
        rw [← cellsT_len]
        exact (List.getElem?_eq_some_iff.1 hj).1
      rw [List.length_map, List.length_range] at hjl
      have hq : j / 3 < ((List.range len).map F).length := by simp; omega
      have g := flat_get (f := Tup.cells) (k := 3) (fun _ => rfl) ((List.range len).map F) (j / 3) (j % 3) hq (by omega)
      have hFq : ((List.range len).map F)[j / 3] = F (j / 3) := by simp
      rw [hFq, show j / 3 * 3 + j % 3 = j by omega] at g
      have g2 : (F (j / 3)).cells[j % 3]? = some u := by rw [← g]; exact hj
      have hc := (hF (j / 3) (by omega)).1 (j % 3) u g2
      have e1 : ∀ k, (⟨b, off, none⟩ : Addr).add k = ⟨b, off + k, none⟩ := fun k => by unfold Addr.add; split <;> simp_all
      rw [e1, show off + (j / 3 * 3 + j % 3) = off + j by omega] at hc
      exact hc
end
end Go.Proofs.Ytfijlgkgbbemnaa
namespace Go.Proofs.Ytfijlgkgbbemnaa
open Go.ChangeShapes Go.WideShapes Go.ChangeAt Go.RowKit Go.Deep
set_option linter.unusedVariables false
set_option linter.unusedSimpArgs false
set_option maxRecDepth 20000

section
variable {H : Type} {enc : TypeId × Value → H} {W : World}
theorem askT_cells : Try.prog.cellsOf 34 = 5 := by kernel_rfl
theorem askT_bytes : Try.prog.bytesOf 34 = 40 := by kernel_rfl
theorem open_askc {fuel : Nat} {cs : List Value} {y : DataW H × List MemPlace} (h : DataW.trod enc Try.prog W 0 (fun _ => true) true fuel 34 cs = some y) : ∃ x : Ask, cs = x.cells ∧ x.In := by
  obtain ⟨xs, n, _, hy, hlen, hxs, hf⟩ := DataW.trod_struct Try.underlying34 h
  rw [askT_cells] at hlen
  match cs, hlen with
  | [v0, v1, v2, v3, v4], _ =>
    match xs, hxs with
    | [y0, y1, y2], _ =>
      have t0 : DataW.trod enc Try.prog W 0 (fun _ => true) true n 3 [v0] = some y0 := hf 0 _ rfl
      have t1 : DataW.trod enc Try.prog W 0 (fun _ => true) true n 31 [v1, v2, v3] = some y1 := hf 1 _ rfl
      have t2 : DataW.trod enc Try.prog W 0 (fun _ => true) true n 2 [v4] = some y2 := hf 2 _ rfl
      obtain ⟨z0, e0, _, w0⟩ := DataW.trod_int Try.underlying3 t0
      obtain ⟨t, ht, hti⟩ := open_tupc t1
      obtain ⟨z2, e2, _, w2⟩ := DataW.trod_int Try.underlying2 t2
      have hv0 : v0 = .int .i64 z0 := by simpa using e0
      have hv2 : v4 = .int .i64 z2 := by simpa using e2
      have h3 : [v0, v1, v2, v3, v4] = [v0] ++ [v1, v2, v3] ++ [v4] := rfl
      rw [h3, ht, hv0, hv2]
      exact ⟨⟨z0, t, z2⟩, rfl, ⟨I64.of_wf w0, hti, I64.of_wf w2⟩⟩
/-- A slice of asks that came in. -/
theorem open_asks {fuel : Nat} {a : Option Addr} {len cap : Nat} {d : DataW H} {p : List MemPlace} (h : DataW.trod enc Try.prog W 0 (fun _ => true) true fuel 27 (Value.slice a len cap).cells.toList = some (d, p)) (hw : (d.weights Try.prog 27).all (· ≤ reachBytes) = true) :
    ∃ l : List Ask, RA W W.heap.size a len cap l ∧ len ≤ 3518437208882 := by
  rcases open_slice Try.underlying27 h with ⟨e, _⟩ | ⟨x, l, c, m, n, D, Pl, e, _, hl, hm, hmm, hx, hi⟩
  · simp [Value.cells] at e
    obtain ⟨rfl, rfl, rfl⟩ := e
    exact ⟨[], RA.nil _ _ _ _, Nat.zero_le _⟩
  · simp [Value.cells] at e
    obtain ⟨rfl, rfl, rfl⟩ := e
    simp only [if_true] at hmm
    subst hmm
    have hd := congrArg Prod.fst hx
    simp only at hd
    have hw' := hw
    rw [hd] at hw'
    simp only [DataW.weights, Try.underlying27, List.all_cons, List.all_append, Bool.and_eq_true, decide_eq_true_eq, List.length_map, List.length_range] at hw'
    obtain ⟨hbz, _⟩ := hw'
    rw [askT_bytes] at hbz
    simp only [reachBytes] at hbz
    have each : ∀ i, ∃ t : Ask, i < len → (∀ j u, t.cells[j]? = some u → W.cell? (x.add (i * 5 + j)) = some u) ∧ t.In := fun i => by
      by_cases hil : i < len
      · obtain ⟨cs', hc, ht⟩ := hi i (by omega)
        rw [askT_cells] at hc
        obtain ⟨_, hcl, hat⟩ := World.cells?_some hc
        obtain ⟨t, rfl, h1⟩ := open_askc ht
        refine ⟨t, fun _ => ⟨fun j u hj => ?_, h1⟩⟩
        have hj3 : j < 5 := (List.getElem?_eq_some_iff.1 hj).1
        rw [← Go.Deep.add_add, hat j hj3, hj]
      · exact ⟨zA, fun h => absurd h hil⟩
    obtain ⟨F, hF⟩ := Classical.axiomOfChoice each
    refine ⟨(List.range len).map F, ⟨by simp, fun t ht => ?_, by rw [cellsA_len]; simp, hl, fun hn => ?_⟩, by omega⟩
    · obtain ⟨i, hi', rfl⟩ := List.mem_map.1 ht
      exact (hF i (List.mem_range.1 hi')).2
    · obtain ⟨b, off, spot⟩ := x
      have h0 := (hF 0 hn).1 0 _ rfl
      have hsp : spot = none := by simpa [Addr.add] using World.cell?_spot h0
      subst hsp
      refine ⟨b, off, rfl, by simpa [Addr.add] using World.block_lt_of_cell? W _ h0, fun j u hj => ?_⟩
      have hjl : j < ((List.range len).map F).length * 5 := by
        rw [← cellsA_len]
        exact (List.getElem?_eq_some_iff.1 hj).1
      rw [List.length_map, List.length_range] at hjl
      have hq : j / 5 < ((List.range len).map F).length := by simp; omega
      have g := flat_get (f := Ask.cells) (k := 5) (fun _ => rfl) ((List.range len).map F) (j / 5) (j % 5) hq (by omega)
      have hFq : ((List.range len).map F)[j / 5] = F (j / 5) := by simp
      rw [hFq, show j / 5 * 5 + j % 5 = j by omega] at g
      have g2 : (F (j / 5)).cells[j % 5]? = some u := by rw [← g]; exact hj
      have hc := (hF (j / 5) (by omega)).1 (j % 5) u g2
      have e1 : ∀ k, (⟨b, off, none⟩ : Addr).add k = ⟨b, off + k, none⟩ := fun k => by unfold Addr.add; split <;> simp_all
      rw [e1, show off + (j / 5 * 5 + j % 5) = off + j by omega] at hc
      exact hc
end
end Go.Proofs.Ytfijlgkgbbemnaa
