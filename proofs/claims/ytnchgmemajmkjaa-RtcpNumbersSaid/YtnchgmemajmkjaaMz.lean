/- From a row's reading of an argument to the plain words of Mem. From a row's reading of a []int to the plain words of Tape. From a row's reading of an api.Report to the plain words of RcM. -/
import Derived.Test.YtnchgmemajmkjaaMem
import Derived.ProofKit
import Derived.OpenShut
import Derived.ShutString
import Derived.ChangeOld
import Derived.SizedLaws
import Derived.JoinedCond
import Derived.Deep.CondSized
import Derived.Test.YtnchgmemajmkjaaTape
import Derived.Test.YtnchgmemajmkjaaRcM
import Derived.Deep.Slices
namespace Go.Proofs.Ytnchgmemajmkjaa
open Go.ChangeShapes Go.WideShapes Go.ChangeAt Go.RowKit
set_option linter.unusedVariables false
set_option linter.unusedSimpArgs false
set_option maxRecDepth 20000

theorem laidOut : laidOutB Try.prog = true := by kernel_rfl
theorem ownK : ownKnob Try.prog.godebug = none := by kernel_rfl

theorem byte_of_wf {n : Int} (h : (Lit.int .u8 n).wf = true) : ((UInt8.ofNat n.toNat).toNat : Int) = n := by
  have : 0 ≤ n ∧ n ≤ 255 := by simpa [Lit.wf, IntKind.min, IntKind.max, IntKind.signed, IntKind.bits] using h
  rw [UInt8.toNat_ofNat']
  omega
/-- A []byte that came in. -/
theorem open_bytes {H : Type} {enc : TypeId × Value → H} {W : World} {t e : TypeId} {fuel : Nat} {a : Option Addr} {len cap : Nat} {d : DataW H} {p : List MemPlace}
    (ht : Try.prog.underlying t = some (.slice e)) (he : Try.prog.underlying e = some (.int .u8)) (hc : Try.prog.cellsOf e = 1)
    (h : DataW.trod enc Try.prog W 0 (fun _ => true) true fuel t (Value.slice a len cap).cells.toList = some (d, p))
    : ∃ l : List UInt8, R8 W W.heap.size a len cap l ∧ ∀ K, (∀ elems spare, d = .slice elems spare → elems.length + spare.length ≤ K) → len ≤ K := by
  rcases open_ints ht he hc h with ⟨hcs, _⟩ | ⟨x, l, c, zs, hcs, _, hl, hm, hz, hx, hcell, hwz⟩
  · simp [Value.cells] at hcs
    obtain ⟨rfl, rfl, rfl⟩ := hcs
    exact ⟨[], R8.nil _ _ _ _, fun K _ => Nat.zero_le _⟩
  · simp [Value.cells] at hcs
    obtain ⟨rfl, rfl, rfl⟩ := hcs
    simp at hz
    simp only [Prod.mk.injEq] at hx
    refine ⟨(zs.take len).map fun n => UInt8.ofNat n.toNat, ⟨by simp; omega, hl, fun hn => ?_⟩, fun K hK => by
      have := hK _ _ hx.1
      simp only [lits, List.length_map, List.length_take, List.length_drop] at this
      omega⟩
    have h0 := hcell 0 (by omega)
    obtain ⟨b, off, spot⟩ := x
    have hsp : spot = none := by simpa [Addr.add] using World.cell?_spot h0
    subst hsp
    refine ⟨b, off, rfl, by simpa [Addr.add] using World.block_lt_of_cell? W _ h0, fun i hi => ?_⟩
    have e1 : (⟨b, off, none⟩ : Addr).add i = ⟨b, off + i, none⟩ := by unfold Addr.add; split <;> simp_all
    have hi' : i < zs.length := by omega
    rw [← e1, hcell i hi']
    have hb := byte_of_wf (hwz zs[i] (List.getElem_mem hi'))
    simp only [List.getD, List.getElem?_map, List.getElem?_take, hi, if_true, List.getElem?_eq_getElem hi', Option.map_some, Option.getD_some]
    rw [hb]
/-- The form's own reach, of a slice of bytes. -/
theorem reach_u8 {H : Type} {ts : List TypeId} {ds : List (DataW H)} {t e : TypeId} (hsz : (DataW.weightsEach Try.prog ts ds).all (· ≤ reachBytes) = true) (j : Nat) (ht : ts[j]? = some t) {d : DataW H} (hd : ds[j]? = some d) (hu : Try.prog.underlying t = some (.slice e)) (hby : Try.prog.bytesOf e = 1) :
    ∀ elems spare, d = .slice elems spare → elems.length + spare.length ≤ 140737488351232 := by
  intro elems spare he
  subst he
  have := sized_slice hsz ht hd hu
  rw [hby] at this
  simp only [reachBytes] at this
  omega

/-! ### What the second form's bound gives -/
theorem one_le {H : Type} (d : DataW H) : 1 ≤ Rows.uptoBulk d := by
  cases d with
  | lit l => cases l <;> simp [Rows.uptoBulk]
  | nil => simp [Rows.uptoBulk]
  | ptr d => simp [Rows.uptoBulk]
  | slice elems spare => simp [Rows.uptoBulk]
  | agg parts => simp [Rows.uptoBulk]
  | iface t d => simp [Rows.uptoBulk]
  | map entries => simp [Rows.uptoBulk]
  | held h => simp [Rows.uptoBulk]
theorem part_le {H : Type} {d : DataW H} {l : List (DataW H)} (h : d ∈ l) : Rows.uptoBulk d ≤ Rows.uptoBulkAll l := by
  induction l with
  | nil => cases h
  | cons x r ih =>
    simp only [Rows.uptoBulkAll]
    cases List.mem_cons.1 h with
    | inl e => subst e; omega
    | inr e => have := ih e; omega
theorem length_le_bulk {H : Type} (l : List (DataW H)) : l.length ≤ Rows.uptoBulkAll l := by
  induction l with
  | nil => simp [Rows.uptoBulkAll]
  | cons x r ih => have := one_le x; simp only [Rows.uptoBulkAll, List.length_cons]; omega
/-- .. of a slice among the arguments. -/
theorem bulk_slice {H : Type} {l : List (DataW H)} (hk : Rows.uptoSmall H l = true) {d : DataW H} (h : d ∈ l) : ∀ elems spare, d = .slice elems spare → elems.length + spare.length ≤ 1048576 := by
  intro elems spare he
  subst he
  have h0 : Rows.uptoBulkAll l ≤ 1048576 := by simpa [Rows.uptoSmall] using hk
  have h1 := part_le h
  have h2 := length_le_bulk elems
  have h3 := length_le_bulk spare
  simp only [Rows.uptoBulk] at h1
  omega
theorem bulk_string {H : Type} {l : List (DataW H)} (hk : Rows.uptoSmall H l = true) {bytes : List UInt8} (h : DataW.lit (.string bytes) ∈ l) : bytes.length ≤ 1048576 := by
  have h0 : Rows.uptoBulkAll l ≤ 1048576 := by simpa [Rows.uptoSmall] using hk
  have h1 := part_le h
  simp only [Rows.uptoBulk] at h1
  omega
theorem u64_nat {n : Int} (h : (Lit.int .u64 n).wf = true) : ∃ x : Nat, n = x ∧ x < 18446744073709551616 := by
  have : 0 ≤ n ∧ n ≤ 18446744073709551615 := by simpa [Lit.wf, IntKind.min, IntKind.max, IntKind.signed, IntKind.bits] using h
  exact ⟨n.toNat, by omega, by omega⟩
end Go.Proofs.Ytnchgmemajmkjaa
namespace Go.Proofs.Ytnchgmemajmkjaa
open Go.ChangeShapes Go.WideShapes Go.ChangeAt Go.RowKit
set_option linter.unusedVariables false
set_option linter.unusedSimpArgs false
set_option maxRecDepth 20000

/-- A []int that came in. -/
theorem open_nums {H : Type} {enc : TypeId × Value → H} {W : World} {t e : TypeId} {fuel : Nat} {a : Option Addr} {len cap : Nat} {d : DataW H} {p : List MemPlace}
    (ht : Try.prog.underlying t = some (.slice e)) (he : Try.prog.underlying e = some (.int .i64)) (hc : Try.prog.cellsOf e = 1)
    (h : DataW.trod enc Try.prog W 0 (fun _ => true) true fuel t (Value.slice a len cap).cells.toList = some (d, p))
    : RI W W.heap.size a len cap ∧ ∀ K, (∀ elems spare, d = .slice elems spare → elems.length + spare.length ≤ K) → len ≤ K := by
  rcases open_ints ht he hc h with ⟨hcs, _⟩ | ⟨x, l, c, zs, hcs, _, hl, hm, hz, hx, hcell, hwz⟩
  · simp [Value.cells] at hcs
    obtain ⟨rfl, rfl, rfl⟩ := hcs
    exact ⟨⟨Nat.le_refl _, fun h => absurd h (by omega)⟩, fun K _ => Nat.zero_le _⟩
  · simp [Value.cells] at hcs
    obtain ⟨rfl, rfl, rfl⟩ := hcs
    simp at hz
    simp only [Prod.mk.injEq] at hx
    refine ⟨⟨hl, fun hn => ?_⟩, fun K hK => by
      have := hK _ _ hx.1
      simp only [lits, List.length_map, List.length_take, List.length_drop] at this
      omega⟩
    have h0 := hcell 0 (by omega)
    obtain ⟨b, off, spot⟩ := x
    have hsp : spot = none := by simpa [Addr.add] using World.cell?_spot h0
    subst hsp
    refine ⟨b, off, rfl, by simpa [Addr.add] using World.block_lt_of_cell? W _ h0, fun i hi => ?_⟩
    have e1 : (⟨b, off, none⟩ : Addr).add i = ⟨b, off + i, none⟩ := by unfold Addr.add; split <;> simp_all
    have hi' : i < zs.length := by omega
    refine ⟨zs[i], ?_, ?_⟩
    · have hw := hwz zs[i] (List.getElem_mem hi')
      simpa [Lit.wf, IntKind.min, IntKind.max, IntKind.signed, IntKind.bits, I64] using hw
    · rw [← e1, hcell i hi']
      simp [List.getD, hi']
theorem reach_i64 {H : Type} {ts : List TypeId} {ds : List (DataW H)} {t e : TypeId} (hsz : (DataW.weightsEach Try.prog ts ds).all (· ≤ reachBytes) = true) (j : Nat) (ht : ts[j]? = some t) {d : DataW H} (hd : ds[j]? = some d) (hu : Try.prog.underlying t = some (.slice e)) (hby : Try.prog.bytesOf e = 8) :
    ∀ elems spare, d = .slice elems spare → elems.length + spare.length ≤ 281474976710656 := by
  intro elems spare he
  subst he
  have := sized_slice hsz ht hd hu
  rw [hby] at this
  simp only [reachBytes] at this
  omega
end Go.Proofs.Ytnchgmemajmkjaa
namespace Go.Proofs.Ytnchgmemajmkjaa
open Go.ChangeShapes Go.WideShapes Go.ChangeAt Go.RowKit Go.Deep
set_option linter.unusedVariables false
set_option linter.unusedSimpArgs false
set_option maxRecDepth 20000

section
variable {H : Type} {enc : TypeId × Value → H} {W : World}
theorem cell_octets {fuel : Nat} {v : Value} {y : DataW H × List MemPlace} (h : DataW.trod enc Try.prog W 0 (fun _ => true) true fuel 31 [v] = some y) :
    ∃ A n c l, v = .slice A n c ∧ R8 W W.heap.size A n c l ∧ ∀ K, (∀ elems spare, y.1 = .slice elems spare → elems.length + spare.length ≤ K) → n ≤ K := by
  obtain ⟨d, p⟩ := y
  have hv : ∃ A n c, v = .slice A n c := by
    rcases open_ints Try.underlying31 Try.underlying5 (by kernel_rfl) h with ⟨e, _⟩ | ⟨x, l, c, zs, e, _⟩
    · exact ⟨none, 0, 0, by simpa using e⟩
    · exact ⟨some x, l, c, by simpa using e⟩
  obtain ⟨A, n, c, rfl⟩ := hv
  obtain ⟨l, h1, h2⟩ := open_bytes Try.underlying31 Try.underlying5 (by kernel_rfl) (show DataW.trod enc Try.prog W 0 (fun _ => true) true fuel 31 (Value.slice A n c).cells.toList = some (d, p) from h)
  exact ⟨A, n, c, l, rfl, h1, h2⟩
theorem u32_of_wf {n : Int} (h : (Lit.int .u32 n).wf = true) : 0 ≤ n ∧ n < 4294967296 := by
  have : 0 ≤ n ∧ n ≤ 4294967295 := by simpa [Lit.wf, IntKind.min, IntKind.max, IntKind.signed, IntKind.bits] using h
  omega
theorem u16_of_wf {n : Int} (h : (Lit.int .u16 n).wf = true) : 0 ≤ n ∧ n < 65536 := by
  have : 0 ≤ n ∧ n ≤ 65535 := by simpa [Lit.wf, IntKind.min, IntKind.max, IntKind.signed, IntKind.bits] using h
  omega
theorem cell_words {fuel : Nat} {v : Value} {y : DataW H × List MemPlace} (h : DataW.trod enc Try.prog W 0 (fun _ => true) true fuel 29 [v] = some y) :
    ∃ A n c l, v = .slice A n c ∧ R32 W W.heap.size A n c l ∧ ∀ K, (∀ elems spare, y.1 = .slice elems spare → elems.length + spare.length ≤ K) → n ≤ K := by
  rcases open_ints Try.underlying29 Try.underlying27 (by kernel_rfl) h with ⟨e, _⟩ | ⟨x, n, c, zs, e, _, hl, hm, hz, hx, hcell, hwz⟩
  · exact ⟨none, 0, 0, [], by simpa using e, R32.nil _ _ _ _, fun K _ => Nat.zero_le _⟩
  · simp at hz
    refine ⟨some x, n, c, (zs.take n).map Int.toNat, by simpa using e, ⟨by simp; omega, hl, fun k hk => ?_, fun hn => ?_⟩, fun K hK => by
      have := hK _ _ (congrArg Prod.fst hx)
      simp only [lits, List.length_map, List.length_take, List.length_drop] at this
      omega⟩
    · obtain ⟨z, hz', rfl⟩ := List.mem_map.1 hk
      have := u32_of_wf (hwz z (List.mem_of_mem_take hz'))
      omega
    have h0 := hcell 0 (by omega)
    obtain ⟨b, off, spot⟩ := x
    have hsp : spot = none := by simpa [Addr.add] using World.cell?_spot h0
    subst hsp
    refine ⟨b, off, rfl, by simpa [Addr.add] using World.block_lt_of_cell? W _ h0, fun i hi => ?_⟩
    have e1 : (⟨b, off, none⟩ : Addr).add i = ⟨b, off + i, none⟩ := by unfold Addr.add; split <;> simp_all
    have hi' : i < zs.length := by omega
    rw [← e1, hcell i hi']
    have hb := u32_of_wf (hwz zs[i] (List.getElem_mem hi'))
    simp only [List.getD, List.getElem?_map, List.getElem?_take, hi, if_true, List.getElem?_eq_getElem hi', Option.map_some, Option.getD_some]
    rw [Int.toNat_of_nonneg hb.1]
theorem u64_of_wf {n : Int} (h : (Lit.int .u64 n).wf = true) : 0 ≤ n ∧ n < 18446744073709551616 := by
  have : 0 ≤ n ∧ n ≤ 18446744073709551615 := by simpa [Lit.wf, IntKind.min, IntKind.max, IntKind.signed, IntKind.bits] using h
  omega
theorem cell_nums {fuel : Nat} {v : Value} {y : DataW H × List MemPlace} (h : DataW.trod enc Try.prog W 0 (fun _ => true) true fuel 23 [v] = some y) :
    ∃ A n c l, v = .slice A n c ∧ RN W W.heap.size A n c l ∧ ∀ K, (∀ elems spare, y.1 = .slice elems spare → elems.length + spare.length ≤ K) → n ≤ K := by
  rcases open_ints Try.underlying23 Try.underlying3 (by kernel_rfl) h with ⟨e, _⟩ | ⟨x, n, c, zs, e, _, hl, hm, hz, hx, hcell, hwz⟩
  · exact ⟨none, 0, 0, [], by simpa using e, RN.nil _ _ _ _, fun K _ => Nat.zero_le _⟩
  · simp at hz
    refine ⟨some x, n, c, zs.take n, by simpa using e, ⟨by simp; omega, fun k hk => I64.of_wf (hwz k (List.mem_of_mem_take hk)), by simp; omega, hl, fun hn => ?_⟩, fun K hK => by
      have := hK _ _ (congrArg Prod.fst hx)
      simp only [lits, List.length_map, List.length_take, List.length_drop] at this
      omega⟩
    have h0 := hcell 0 (by omega)
    obtain ⟨b, off, spot⟩ := x
    have hsp : spot = none := by simpa [Addr.add] using World.cell?_spot h0
    subst hsp
    refine ⟨b, off, rfl, by simpa [Addr.add] using World.block_lt_of_cell? W _ h0, fun i v hv => ?_⟩
    have e1 : (⟨b, off, none⟩ : Addr).add i = ⟨b, off + i, none⟩ := by unfold Addr.add; split <;> simp_all
    have hi : i < n := by
      have := (List.getElem?_eq_some_iff.1 hv).1
      simp at this
      omega
    have hi' : i < zs.length := by omega
    rw [← e1, hcell i hi', ← hv]
    simp [List.getD, iv, hi', hi]
theorem tuple_cells : Try.prog.cellsOf 57 = 3 := by kernel_rfl
theorem open_tuple {fuel : Nat} {cs : List Value} {y : DataW H × List MemPlace} (h : DataW.trod enc Try.prog W 0 (fun _ => true) true fuel 57 cs = some y) : ∃ t : Tup, cs = t.cells ∧ t.In := by
  obtain ⟨xs, n, _, hy, hlen, hxs, hf⟩ := DataW.trod_struct Try.underlying57 h
  rw [tuple_cells] at hlen
  match cs, hlen with
  | [v0, v1, v2], _ =>
    match xs, hxs with
    | [y0, y1, y2], _ =>
      have t0 : DataW.trod enc Try.prog W 0 (fun _ => true) true n 27 [v0] = some y0 := hf 0 _ rfl
      have t1 : DataW.trod enc Try.prog W 0 (fun _ => true) true n 30 [v1] = some y1 := hf 1 _ rfl
      have t2 : DataW.trod enc Try.prog W 0 (fun _ => true) true n 3 [v2] = some y2 := hf 2 _ rfl
      obtain ⟨z0, e0, _, w0⟩ := DataW.trod_int Try.underlying27 t0
      obtain ⟨z1, e1, _, w1⟩ := DataW.trod_int Try.underlying30 t1
      obtain ⟨z2, e2, _, w2⟩ := DataW.trod_int Try.underlying3 t2
      have hv0 : v0 = .int .u32 z0 := by simpa using e0
      have hv1 : v1 = .int .u64 z1 := by simpa using e1
      have hv2 : v2 = .int .i64 z2 := by simpa using e2
      subst hv0 hv1 hv2
      have g0 := u32_of_wf w0
      have g1 := u64_of_wf w1
      refine ⟨⟨z0.toNat, z1.toNat, z2⟩, ?_, ⟨by simp only; omega, by simp only; omega, I64.of_wf w2⟩⟩
      simp only [Tup.cells]
      rw [Int.toNat_of_nonneg g0.1, Int.toNat_of_nonneg g1.1]
theorem cell_tuples {fuel : Nat} {v : Value} {y : DataW H × List MemPlace} (h : DataW.trod enc Try.prog W 0 (fun _ => true) true fuel 28 [v] = some y) :
    ∃ A n c l, v = .slice A n c ∧ RT W W.heap.size A n c l ∧ ∀ K, (∀ elems spare, y.1 = .slice elems spare → elems.length + spare.length ≤ K) → n ≤ K := by
  rcases open_slice Try.underlying28 h with ⟨e, _⟩ | ⟨x, len, c, m, n, D, Pl, e, _, hl, hm, hmm, hx, hi⟩
  · exact ⟨none, 0, 0, [], by simpa using e, RT.nil _ _ _ _, fun K _ => Nat.zero_le _⟩
  · simp only [if_true] at hmm
    subst hmm
    have each : ∀ i, ∃ t : Tup, i < len → (∀ j u, t.cells[j]? = some u → W.cell? (x.add (i * 3 + j)) = some u) ∧ t.In := fun i => by
      by_cases hil : i < len
      · obtain ⟨cs', hc, ht⟩ := hi i (by omega)
        rw [tuple_cells] at hc
        obtain ⟨_, hcl, hat⟩ := World.cells?_some hc
        obtain ⟨t, rfl, h1⟩ := open_tuple ht
        refine ⟨t, fun _ => ⟨fun j u hj => ?_, h1⟩⟩
        have hj3 : j < 3 := (List.getElem?_eq_some_iff.1 hj).1
        rw [← Go.Deep.add_add, hat j hj3, hj]
      · exact ⟨⟨0, 0, 0⟩, fun h => absurd h hil⟩
    obtain ⟨F, hF⟩ := Classical.axiomOfChoice each
    refine ⟨some x, len, m, (List.range len).map F, by simpa using e, ⟨by simp, fun t ht => ?_, by rw [cellsT_len]; simp, hl, fun hn => ?_⟩, fun K hK => by
      have := hK _ _ (congrArg Prod.fst hx)
      simp at this
      omega⟩
    · obtain ⟨i, hi', rfl⟩ := List.mem_map.1 ht
      exact (hF i (List.mem_range.1 hi')).2
    · obtain ⟨b, off, spot⟩ := x
      have h0 := (hF 0 hn).1 0 _ rfl
      have hsp : spot = none := by simpa [Addr.add] using World.cell?_spot h0
      subst hsp
      refine ⟨b, off, rfl, by simpa [Addr.add] using World.block_lt_of_cell? W _ h0, fun j u hj => ?_⟩
      have hjl : j < ((List.range len).map F).length * 3 := by
        rw [← cellsT_len]
        exact (List.getElem?_eq_some_iff.1 hj).1
      rw [List.length_map, List.length_range] at hjl
      have hq : j / 3 < ((List.range len).map F).length := by simp; omega
      have g := flat_get (f := Tup.cells) (k := 3) (fun _ => rfl) ((List.range len).map F) (j / 3) (j % 3) hq (by omega)
      have hFq : ((List.range len).map F)[j / 3] = F (j / 3) := by simp
      rw [hFq, show j / 3 * 3 + j % 3 = j by omega] at g
      have g2 : (F (j / 3)).cells[j % 3]? = some u := by rw [← g]; exact hj
      have hc := (hF (j / 3) (by omega)).1 (j % 3) u g2
      have e1 : ∀ k, (⟨b, off, none⟩ : Addr).add k = ⟨b, off + k, none⟩ := fun k => by unfold Addr.add; split <;> simp_all
      rw [e1, show off + (j / 3 * 3 + j % 3) = off + j by omega] at hc
      exact hc
theorem report_cells : Try.prog.cellsOf 33 = 10 := by kernel_rfl
/-- A report that came in by value. -/
theorem open_report {r : Reach} {b0 : Nat} {v : Value} {d : DataW H} {p : List MemPlace} (hv : Value.okWide Try.prog W r b0 33 v) (h : DataW.Trod enc Try.prog W 0 (fun _ => true) true 33 v d p) (hw : (d.weights Try.prog 33).all (· ≤ reachBytes) = true) :
    ∃ q : Rv, v = q.val ∧ IsR W W.heap.size q := by
  obtain ⟨cs, rfl, hsz⟩ := okWide_struct Try.underlying33 hv
  rw [report_cells] at hsz
  obtain ⟨fuel, hf⟩ := h
  obtain ⟨xs, n, _, hx, _, hxs, hg⟩ := DataW.trod_struct Try.underlying33 hf
  obtain ⟨l⟩ := cs
  match l, hsz with
  | [v0, v1, v2, v3, v4, v5, v6, v7, v8, v9], _ =>
    match xs, hxs with
    | [y0, y1, y2, y3, y4, y5, y6, y7, y8, y9], _ =>
      have t0 : DataW.trod enc Try.prog W 0 (fun _ => true) true n 3 [v0] = some y0 := hg 0 _ rfl
      have t1 : DataW.trod enc Try.prog W 0 (fun _ => true) true n 27 [v1] = some y1 := hg 1 _ rfl
      have t2 : DataW.trod enc Try.prog W 0 (fun _ => true) true n 27 [v2] = some y2 := hg 2 _ rfl
      have t3 : DataW.trod enc Try.prog W 0 (fun _ => true) true n 28 [v3] = some y3 := hg 3 _ rfl
      have t4 : DataW.trod enc Try.prog W 0 (fun _ => true) true n 29 [v4] = some y4 := hg 4 _ rfl
      have t5 : DataW.trod enc Try.prog W 0 (fun _ => true) true n 23 [v5] = some y5 := hg 5 _ rfl
      have t6 : DataW.trod enc Try.prog W 0 (fun _ => true) true n 30 [v6] = some y6 := hg 6 _ rfl
      have t7 : DataW.trod enc Try.prog W 0 (fun _ => true) true n 3 [v7] = some y7 := hg 7 _ rfl
      have t8 : DataW.trod enc Try.prog W 0 (fun _ => true) true n 3 [v8] = some y8 := hg 8 _ rfl
      have t9 : DataW.trod enc Try.prog W 0 (fun _ => true) true n 31 [v9] = some y9 := hg 9 _ rfl
      obtain ⟨z0, e0, _, w0⟩ := DataW.trod_int Try.underlying3 t0
      obtain ⟨z1, e1, _, w1⟩ := DataW.trod_int Try.underlying27 t1
      obtain ⟨z2, e2, _, w2⟩ := DataW.trod_int Try.underlying27 t2
      obtain ⟨z6, e6, _, w6⟩ := DataW.trod_int Try.underlying30 t6
      obtain ⟨z7, e7, _, w7⟩ := DataW.trod_int Try.underlying3 t7
      obtain ⟨z8, e8, _, w8⟩ := DataW.trod_int Try.underlying3 t8
      obtain ⟨A3, n3, c3, l3, rfl, r3, b3⟩ := cell_tuples t3
      obtain ⟨A4, n4, c4, l4, rfl, r4, b4⟩ := cell_words t4
      obtain ⟨A5, n5, c5, l5, rfl, r5, b5⟩ := cell_nums t5
      obtain ⟨A9, n9, c9, l9, rfl, r9, b9⟩ := cell_octets t9
      have hv0 : v0 = .int .i64 z0 := by simpa using e0
      have hv1 : v1 = .int .u32 z1 := by simpa using e1
      have hv2 : v2 = .int .u32 z2 := by simpa using e2
      have hv6 : v6 = .int .u64 z6 := by simpa using e6
      have hv7 : v7 = .int .i64 z7 := by simpa using e7
      have hv8 : v8 = .int .i64 z8 := by simpa using e8
      subst hv0 hv1 hv2 hv6 hv7 hv8
      have g1 := u32_of_wf w1
      have g2 := u32_of_wf w2
      have g6 := u64_of_wf w6
      have hd : d = .agg [y0.1, y1.1, y2.1, y3.1, y4.1, y5.1, y6.1, y7.1, y8.1, y9.1] := by
        have := congrArg Prod.fst hx
        simpa using this
      subst hd
      have hwe : (DataW.weightsEach Try.prog [3, 27, 27, 28, 29, 23, 30, 3, 3, 31] [y0.1, y1.1, y2.1, y3.1, y4.1, y5.1, y6.1, y7.1, y8.1, y9.1]).all (· ≤ reachBytes) = true := by
        have h1 := hw
        simp only [DataW.weights, Try.underlying33] at h1
        exact h1
      have k3 : n3 ≤ 140737488355328 := b3 _ fun elems spare he => by
        have h1 := sized_slice hwe (j := 3) rfl (congrArg some he) Try.underlying28
        rw [show Try.prog.bytesOf 57 = 24 by kernel_rfl] at h1
        simp only [reachBytes] at h1
        omega
      have k4 : n4 ≤ 140737488355328 := b4 _ fun elems spare he => by
        have h1 := sized_slice hwe (j := 4) rfl (congrArg some he) Try.underlying29
        rw [show Try.prog.bytesOf 27 = 4 by kernel_rfl] at h1
        simp only [reachBytes] at h1
        omega
      have k5 : n5 ≤ 140737488355328 := b5 _ fun elems spare he => by
        have h1 := sized_slice hwe (j := 5) rfl (congrArg some he) Try.underlying23
        rw [show Try.prog.bytesOf 3 = 8 by kernel_rfl] at h1
        simp only [reachBytes] at h1
        omega
      have k9 : n9 ≤ 140737488355328 := b9 _ fun elems spare he => by
        have h1 := sized_slice hwe (j := 9) rfl (congrArg some he) Try.underlying31
        rw [show Try.prog.bytesOf 5 = 1 by kernel_rfl] at h1
        simp only [reachBytes] at h1
        omega
      have q3 := r3.1
      have q4 := r4.1
      have q5 := r5.1
      have q9 := r9.1
      subst q3 q4 q5 q9
      refine ⟨⟨⟨z0, z1.toNat, z2.toNat, l3, l4, l5, z6.toNat, z7, z8, l9⟩, A3, c3, A4, c4, A5, c5, A9, c9⟩, ?_, ⟨r3, r4, r5, r9, ⟨I64.of_wf w0, by simp only; omega, by simp only; omega, by simp only; omega, I64.of_wf w7, I64.of_wf w8, k3, k4, k5, k9⟩⟩⟩
      simp only [Rv.val, Rv.cells]
      rw [Int.toNat_of_nonneg g1.1, Int.toNat_of_nonneg g2.1, Int.toNat_of_nonneg g6.1]
theorem weights_at {ts : List TypeId} {ds : List (DataW H)} (hsz : (DataW.weightsEach Try.prog ts ds).all (· ≤ reachBytes) = true) (j : Nat) {t : TypeId} {d : DataW H} (ht : ts[j]? = some t) (hd : ds[j]? = some d) : (d.weights Try.prog t).all (· ≤ reachBytes) = true :=
  List.all_eq_true.2 fun n hn => List.all_eq_true.1 hsz n (DataW.weights_mem_each ht hd n hn)
end
end Go.Proofs.Ytnchgmemajmkjaa
