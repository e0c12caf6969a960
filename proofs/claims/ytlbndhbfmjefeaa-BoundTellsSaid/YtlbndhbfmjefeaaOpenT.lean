/- From a row's reading of a slice of tuples to the plain words of Tup. -/
import Derived.Test.YtlbndhbfmjefeaaOpen
import Derived.Test.YtlbndhbfmjefeaaBdM
import Derived.Deep.Slices
namespace Go.Proofs.Ytlbndhbfmjefeaa
open Go.ChangeShapes Go.WideShapes Go.ChangeAt Go.RowKit Go.Deep
set_option linter.unusedVariables false
set_option linter.unusedSimpArgs false
set_option maxRecDepth 20000

section
variable {H : Type} {enc : TypeId × Value → H} {W : World}
theorem weights_at {ts : List TypeId} {ds : List (DataW H)} (hsz : (DataW.weightsEach Try.prog ts ds).all (· ≤ reachBytes) = true) (j : Nat) {t : TypeId} {d : DataW H} (ht : ts[j]? = some t) (hd : ds[j]? = some d) : (d.weights Try.prog t).all (· ≤ reachBytes) = true :=
  List.all_eq_true.2 fun n hn => List.all_eq_true.1 hsz n (DataW.weights_mem_each ht hd n hn)
theorem weights_all {e : TypeId} : ∀ {l : List (DataW H)}, (DataW.weightsAll Try.prog e l).all (· ≤ reachBytes) = true → ∀ d ∈ l, (d.weights Try.prog e).all (· ≤ reachBytes) = true
  | [], _, d, hd => by cases hd
  | x :: r, h, d, hd => by
    simp only [DataW.weightsAll, List.all_append, Bool.and_eq_true] at h
    rcases List.mem_cons.1 hd with rfl | hd
    · exact h.1
    · exact weights_all h.2 d hd
theorem tupT_cells : Try.prog.cellsOf 30 = 3 := by kernel_rfl
theorem tupT_bytes : Try.prog.bytesOf 30 = 24 := by kernel_rfl
theorem open_tupc {fuel : Nat} {cs : List Value} {y : DataW H × List MemPlace} (h : DataW.trod enc Try.prog W 0 (fun _ => true) true fuel 30 cs = some y) : ∃ x : Tup, cs = x.cells ∧ x.In := by
  obtain ⟨xs, n, _, hy, hlen, hxs, hf⟩ := DataW.trod_struct Try.underlying30 h
  rw [tupT_cells] at hlen
  match cs, hlen with
  | [v0, v1, v2], _ =>
    match xs, hxs with
    | [y0, y1, y2], _ =>
      have t0 : DataW.trod enc Try.prog W 0 (fun _ => true) true n 28 [v0] = some y0 := hf 0 _ rfl
      have t1 : DataW.trod enc Try.prog W 0 (fun _ => true) true n 26 [v1] = some y1 := hf 1 _ rfl
      have t2 : DataW.trod enc Try.prog W 0 (fun _ => true) true n 3 [v2] = some y2 := hf 2 _ rfl
      obtain ⟨z0, e0, _, w0⟩ := DataW.trod_int Try.underlying28 t0
      obtain ⟨z1, e1, _, w1⟩ := DataW.trod_int Try.underlying26 t1
      obtain ⟨z2, e2, _, w2⟩ := DataW.trod_int Try.underlying3 t2
      have hv0 : v0 = .int .u32 z0 := by simpa using e0
      have hv1 : v1 = .int .u64 z1 := by simpa using e1
      have hv2 : v2 = .int .i64 z2 := by simpa using e2
      subst hv0 hv1 hv2
      obtain ⟨k, rfl, hk⟩ : ∃ k : Nat, z1 = (k : Int) ∧ k < 18446744073709551616 := by
        have : 0 ≤ z1 ∧ z1 ≤ 18446744073709551615 := by simpa [Lit.wf, IntKind.min, IntKind.max, IntKind.signed, IntKind.bits] using w1
        exact ⟨z1.toNat, by omega, by omega⟩
      obtain ⟨o, rfl, ho⟩ : ∃ k : Nat, z0 = (k : Int) ∧ k < 4294967296 := by
        have : 0 ≤ z0 ∧ z0 ≤ 4294967295 := by simpa [Lit.wf, IntKind.min, IntKind.max, IntKind.signed, IntKind.bits] using w0
        exact ⟨z0.toNat, by omega, by omega⟩
      exact ⟨⟨o, k, z2⟩, rfl, ⟨ho, hk, I64.of_wf w2⟩⟩
/-- A slice of tuples that came in. -/
theorem open_tups {fuel : Nat} {a : Option Addr} {len cap : Nat} {d : DataW H} {p : List MemPlace} (h : DataW.trod enc Try.prog W 0 (fun _ => true) true fuel 22 (Value.slice a len cap).cells.toList = some (d, p)) (hw : (d.weights Try.prog 22).all (· ≤ reachBytes) = true) :
    ∃ l : List Tup, RT W W.heap.size a len cap l ∧ len ≤ 5864062014805 := by
  rcases open_slice Try.underlying22 h with ⟨e, _⟩ | ⟨x, l, c, m, n, D, Pl, e, _, hl, hm, hmm, hx, hi⟩
  · simp [Value.cells] at e
    obtain ⟨rfl, rfl, rfl⟩ := e
    exact ⟨[], RT.nil _ _ _ _, Nat.zero_le _⟩
  · simp [Value.cells] at e
    obtain ⟨rfl, rfl, rfl⟩ := e
    simp only [if_true] at hmm
    subst hmm
    have hd := congrArg Prod.fst hx
    simp only at hd
    have hw' := hw
    rw [hd] at hw'
    simp only [DataW.weights, Try.underlying22, List.all_cons, List.all_append, Bool.and_eq_true, decide_eq_true_eq, List.length_map, List.length_range] at hw'
    obtain ⟨hbz, _⟩ := hw'
    rw [tupT_bytes] at hbz
    simp only [reachBytes] at hbz
    have each : ∀ i, ∃ t : Tup, i < len → (∀ j u, t.cells[j]? = some u → W.cell? (x.add (i * 3 + j)) = some u) ∧ t.In := fun i => by
      by_cases hil : i < len
      · obtain ⟨cs', hc, ht⟩ := hi i (by omega)
        rw [tupT_cells] at hc
        obtain ⟨_, hcl, hat⟩ := World.cells?_some hc
        obtain ⟨t, rfl, h1⟩ := open_tupc ht
        refine ⟨t, fun _ => ⟨fun j u hj => ?_, h1⟩⟩
        have hj3 : j < 3 := (List.getElem?_eq_some_iff.1 hj).1
        rw [← Go.Deep.add_add, hat j hj3, hj]
      · exact ⟨zT, fun h => absurd h hil⟩
    obtain ⟨F, hF⟩ := Classical.axiomOfChoice each
    refine ⟨(List.range len).map F, ⟨by simp, fun t ht => ?_, by rw [cellsT_len]; simp, hl, fun hn => ?_⟩, by omega⟩
    · obtain ⟨i, hi', rfl⟩ := List.mem_map.1 ht
      exact (hF i (List.mem_range.1 hi')).2
    · obtain ⟨b, off, spot⟩ := x
      have h0 := (hF 0 hn).1 0 _ rfl
      have hsp : spot = none := by simpa [Addr.add] using World.cell?_spot h0
      subst hsp
      refine ⟨b, off, rfl, by simpa [Addr.add] using World.block_lt_of_cell? W _ h0, fun j u hj => ?_⟩
      have hjl : j < ((List.range len).map F).length * 3 := by
        rw [← cellsT_len]
        exact (List.getElem?_eq_some_iff.1 hj).1
      rw [List.length_map, List.length_range] at hjl
      have hq : j / 3 < ((List.range len).map F).length := by simp; omega
      have g := flat_get (f := Tup.cells) (k := 3) (fun _ => rfl) ((List.range len).map F) (j / 3) (j % 3) hq (by omega)
      have hFq : ((List.range len).map F)[j / 3] = F (j / 3) := by simp
      rw [hFq, show j / 3 * 3 + j % 3 = j by omega] at g
      have g2 : (F (j / 3)).cells[j % 3]? = some u := by rw [← g]; exact hj
      have hc := (hF (j / 3) (by omega)).1 (j % 3) u g2
      have e1 : ∀ k, (⟨b, off, none⟩ : Addr).add k = ⟨b, off + k, none⟩ := fun k => by unfold Addr.add; split <;> simp_all
      rw [e1, show off + (j / 3 * 3 + j % 3) = off + j by omega] at hc
      exact hc
end
end Go.Proofs.Ytlbndhbfmjefeaa
