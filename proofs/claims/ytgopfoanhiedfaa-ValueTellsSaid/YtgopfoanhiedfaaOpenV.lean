/- From a row's reading of an api.Layer, of a slice of them, to the plain words of VlM. -/
import Derived.Test.YtgopfoanhiedfaaOpen
import Derived.Test.YtgopfoanhiedfaaVlM
import Derived.Deep.Slices
namespace Go.Proofs.Ytgopfoanhiedfaa
open Go.ChangeShapes Go.WideShapes Go.ChangeAt Go.RowKit Go.Deep
set_option linter.unusedVariables false
set_option linter.unusedSimpArgs false
set_option maxRecDepth 20000

section
variable {H : Type} {enc : TypeId × Value → H} {W : World}
theorem u32_of_wf {n : Int} (h : (Lit.int .u32 n).wf = true) : 0 ≤ n ∧ n < 4294967296 := by
  have : 0 ≤ n ∧ n ≤ 4294967295 := by simpa [Lit.wf, IntKind.min, IntKind.max, IntKind.signed, IntKind.bits] using h
  omega
theorem i32_of_wf {n : Int} (h : (Lit.int .i32 n).wf = true) : -2147483648 ≤ n ∧ n ≤ 2147483647 := by
  simpa [Lit.wf, IntKind.min, IntKind.max, IntKind.signed, IntKind.bits] using h
theorem u32_nat {n : Int} (h : (Lit.int .u32 n).wf = true) : ∃ x : Nat, n = x ∧ x < 4294967296 := by
  have := u32_of_wf h
  exact ⟨n.toNat, by omega, by omega⟩
theorem weights_at {ts : List TypeId} {ds : List (DataW H)} (hsz : (DataW.weightsEach Try.prog ts ds).all (· ≤ reachBytes) = true) (j : Nat) {t : TypeId} {d : DataW H} (ht : ts[j]? = some t) (hd : ds[j]? = some d) : (d.weights Try.prog t).all (· ≤ reachBytes) = true :=
  List.all_eq_true.2 fun n hn => List.all_eq_true.1 hsz n (DataW.weights_mem_each ht hd n hn)
theorem weights_all {e : TypeId} : ∀ {l : List (DataW H)}, (DataW.weightsAll Try.prog e l).all (· ≤ reachBytes) = true → ∀ d ∈ l, (d.weights Try.prog e).all (· ≤ reachBytes) = true
  | [], _, d, hd => by cases hd
  | x :: r, h, d, hd => by
    simp only [DataW.weightsAll, List.all_append, Bool.and_eq_true] at h
    rcases List.mem_cons.1 hd with rfl | hd
    · exact h.1
    · exact weights_all h.2 d hd
theorem lay_cells : Try.prog.cellsOf 28 = 3 := by kernel_rfl
theorem lay_bytes : Try.prog.bytesOf 28 = 32 := by kernel_rfl
theorem open_layc {fuel : Nat} {cs : List Value} {y : DataW H × List MemPlace} (h : DataW.trod enc Try.prog W 0 (fun _ => true) true fuel 28 cs = some y) (hw : (y.1.weights Try.prog 28).all (· ≤ reachBytes) = true) : ∃ x : Lay, cs = x.cells ∧ x.In := by
  obtain ⟨xs, n, _, hy, hlen, hxs, hf⟩ := DataW.trod_struct Try.underlying28 h
  rw [lay_cells] at hlen
  match cs, hlen with
  | [v0, v1, v2], _ =>
    match xs, hxs with
    | [y0, y1, y2], _ =>
      have t0 : DataW.trod enc Try.prog W 0 (fun _ => true) true n 9 [v0] = some y0 := hf 0 _ rfl
      have t1 : DataW.trod enc Try.prog W 0 (fun _ => true) true n 25 [v1] = some y1 := hf 1 _ rfl
      have t2 : DataW.trod enc Try.prog W 0 (fun _ => true) true n 3 [v2] = some y2 := hf 2 _ rfl
      obtain ⟨s, e0, d0, _⟩ := DataW.trod_string Try.underlying9 t0
      obtain ⟨z1, e1, _, w1⟩ := DataW.trod_int Try.underlying25 t1
      obtain ⟨z2, e2, _, w2⟩ := DataW.trod_int Try.underlying3 t2
      have hv0 : v0 = .string s := by simpa using e0
      have hv1 : v1 = .int .u32 z1 := by simpa using e1
      have hv2 : v2 = .int .i64 z2 := by simpa using e2
      subst hv0 hv1 hv2
      have g1 := u32_of_wf w1
      have hd : y.1 = .agg [y0.1, y1.1, y2.1] := by
        have := congrArg Prod.fst hy
        simpa using this
      have hwe : (DataW.weightsEach Try.prog [9, 25, 3] [y0.1, y1.1, y2.1]).all (· ≤ reachBytes) = true := by
        have h1 := hw
        rw [hd] at h1
        simp only [DataW.weights, Try.underlying28] at h1
        exact h1
      have hs := sized_string hwe (j := 0) rfl (congrArg some (show y0.1 = _ from congrArg Prod.fst d0))
      refine ⟨⟨s, z1.toNat, z2⟩, ?_, ⟨?_, by show z1.toNat < _; omega, I64.of_wf w2⟩⟩
      · simp only [Lay.cells]
        rw [Int.toNat_of_nonneg g1.1]
      · show s.size ≤ _
        simp only [reachBytes] at hs
        have : s.data.toList.length = s.size := rfl
        omega
/-- A layer that came in by value. -/
theorem open_lay {r : Reach} {b0 : Nat} {v : Value} {d : DataW H} {p : List MemPlace} (hv : Value.okWide Try.prog W r b0 28 v) (h : DataW.Trod enc Try.prog W 0 (fun _ => true) true 28 v d p) (hw : (d.weights Try.prog 28).all (· ≤ reachBytes) = true) :
    ∃ x : Lay, v = x.val ∧ x.In := by
  obtain ⟨cs, rfl, hsz⟩ := okWide_struct Try.underlying28 hv
  obtain ⟨fuel, hf⟩ := h
  obtain ⟨x, hx, hi⟩ := open_layc hf hw
  refine ⟨x, ?_, hi⟩
  have : cs.toList = x.cells := hx
  rw [show cs = x.cells.toArray by rw [← this]]
  rfl
/-- A slice of layers that came in. -/
theorem open_lays {fuel : Nat} {a : Option Addr} {len cap : Nat} {d : DataW H} {p : List MemPlace} (h : DataW.trod enc Try.prog W 0 (fun _ => true) true fuel 29 (Value.slice a len cap).cells.toList = some (d, p)) (hw : (d.weights Try.prog 29).all (· ≤ reachBytes) = true) :
    ∃ l : List Lay, RL W W.heap.size a len cap l ∧ len ≤ 1000000000000000 := by
  rcases open_slice Try.underlying29 h with ⟨e, _⟩ | ⟨x, l, c, m, n, D, Pl, e, _, hl, hm, hmm, hx, hi⟩
  · simp [Value.cells] at e
    obtain ⟨rfl, rfl, rfl⟩ := e
    exact ⟨[], RL.nil _ _ _ _, Nat.zero_le _⟩
  · simp [Value.cells] at e
    obtain ⟨rfl, rfl, rfl⟩ := e
    simp only [if_true] at hmm
    subst hmm
    have hd := congrArg Prod.fst hx
    simp only at hd
    have hw' := hw
    rw [hd] at hw'
    simp only [DataW.weights, Try.underlying29, List.all_cons, List.all_append, Bool.and_eq_true, decide_eq_true_eq, List.length_map, List.length_range] at hw'
    obtain ⟨hbz, hwl, _⟩ := hw'
    rw [lay_bytes] at hbz
    simp only [reachBytes] at hbz
    have each : ∀ i, ∃ t : Lay, i < len → (∀ j u, t.cells[j]? = some u → W.cell? (x.add (i * 3 + j)) = some u) ∧ t.In := fun i => by
      by_cases hil : i < len
      · obtain ⟨cs', hc, ht⟩ := hi i (by omega)
        rw [lay_cells] at hc
        obtain ⟨_, hcl, hat⟩ := World.cells?_some hc
        obtain ⟨t, rfl, h1⟩ := open_layc ht (weights_all hwl _ (List.mem_map.2 ⟨i, List.mem_range.2 hil, rfl⟩))
        refine ⟨t, fun _ => ⟨fun j u hj => ?_, h1⟩⟩
        have hj3 : j < 3 := (List.getElem?_eq_some_iff.1 hj).1
        rw [← Go.Deep.add_add, hat j hj3, hj]
      · exact ⟨zL, fun h => absurd h hil⟩
    obtain ⟨F, hF⟩ := Classical.axiomOfChoice each
    refine ⟨(List.range len).map F, ⟨by simp, fun t ht => ?_, by rw [cellsL_len]; simp, hl, fun hn => ?_⟩, by omega⟩
    · obtain ⟨i, hi', rfl⟩ := List.mem_map.1 ht
      exact (hF i (List.mem_range.1 hi')).2
    · obtain ⟨b, off, spot⟩ := x
      have h0 := (hF 0 hn).1 0 _ rfl
      have hsp : spot = none := by simpa [Addr.add] using World.cell?_spot h0
      subst hsp
      refine ⟨b, off, rfl, by simpa [Addr.add] using World.block_lt_of_cell? W _ h0, fun j u hj => ?_⟩
      have hjl : j < ((List.range len).map F).length * 3 := by
        rw [← cellsL_len]
        exact (List.getElem?_eq_some_iff.1 hj).1
      rw [List.length_map, List.length_range] at hjl
      have hq : j / 3 < ((List.range len).map F).length := by simp; omega
      have g := flat_get (f := Lay.cells) (k := 3) (fun _ => rfl) ((List.range len).map F) (j / 3) (j % 3) hq (by omega)
      have hFq : ((List.range len).map F)[j / 3] = F (j / 3) := by simp
      rw [hFq, show j / 3 * 3 + j % 3 = j by omega] at g
      have g2 : (F (j / 3)).cells[j % 3]? = some u := by rw [← g]; exact hj
      have hc := (hF (j / 3) (by omega)).1 (j % 3) u g2
      have e1 : ∀ k, (⟨b, off, none⟩ : Addr).add k = ⟨b, off + k, none⟩ := fun k => by unfold Addr.add; split <;> simp_all
      rw [e1, show off + (j / 3 * 3 + j % 3) = off + j by omega] at hc
      exact hc
end
end Go.Proofs.Ytgopfoanhiedfaa
