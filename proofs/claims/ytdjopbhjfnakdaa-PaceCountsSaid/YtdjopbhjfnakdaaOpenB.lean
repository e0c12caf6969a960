/- From a row's reading of a []bool to plain words (RBo). -/
import Derived.Test.YtdjopbhjfnakdaaOpen
import Derived.Test.YtdjopbhjfnakdaaRbo
import Derived.Deep.Slices
namespace Go.Proofs.Ytdjopbhjfnakdaa
open Go.ChangeShapes Go.WideShapes Go.ChangeAt Go.RowKit Go.Deep
set_option linter.unusedVariables false
set_option linter.unusedSimpArgs false
set_option maxRecDepth 20000

section
variable {H : Type} {enc : TypeId × Value → H} {W : World}
theorem weights_atB {ts : List TypeId} {ds : List (DataW H)} (hsz : (DataW.weightsEach Try.prog ts ds).all (· ≤ reachBytes) = true) (j : Nat) {t : TypeId} {d : DataW H} (ht : ts[j]? = some t) (hd : ds[j]? = some d) : (d.weights Try.prog t).all (· ≤ reachBytes) = true :=
  List.all_eq_true.2 fun n hn => List.all_eq_true.1 hsz n (DataW.weights_mem_each ht hd n hn)
theorem boolT_cells : Try.prog.cellsOf 4 = 1 := by kernel_rfl
theorem boolT_bytes : Try.prog.bytesOf 4 = 1 := by kernel_rfl
/-- A []bool that came in. -/
theorem open_bools {fuel : Nat} {a : Option Addr} {len cap : Nat} {d : DataW H} {p : List MemPlace} (h : DataW.trod enc Try.prog W 0 (fun _ => true) true fuel 38 (Value.slice a len cap).cells.toList = some (d, p)) (hw : (d.weights Try.prog 38).all (· ≤ reachBytes) = true) :
    RBo W W.heap.size a len cap ∧ len ≤ 281474976710656 := by
  rcases open_slice Try.underlying38 h with ⟨e, _⟩ | ⟨x, l, c, m, n, D, Pl, e, _, hl, hm, hmm, hx, hi⟩
  · simp [Value.cells] at e
    obtain ⟨rfl, rfl, rfl⟩ := e
    exact ⟨⟨Nat.zero_le _, fun h => absurd h (by omega)⟩, Nat.zero_le _⟩
  · simp [Value.cells] at e
    obtain ⟨rfl, rfl, rfl⟩ := e
    simp only [if_true] at hmm
    subst hmm
    have hd := congrArg Prod.fst hx
    simp only at hd
    have hw' := hw
    rw [hd] at hw'
    simp only [DataW.weights, Try.underlying38, List.all_cons, List.all_append, Bool.and_eq_true, decide_eq_true_eq, List.length_map, List.length_range] at hw'
    obtain ⟨hbz, _⟩ := hw'
    rw [boolT_bytes] at hbz
    simp only [reachBytes] at hbz
    have each : ∀ i, ∃ t : Bool, i < len → W.cell? (x.add i) = some (.bool t) := fun i => by
      by_cases hil : i < len
      · obtain ⟨cs', hc, ht⟩ := hi i (by omega)
        rw [boolT_cells] at hc
        obtain ⟨_, hcl, hat⟩ := World.cells?_some hc
        obtain ⟨b, hb, _⟩ := DataW.trod_bool Try.underlying4 ht
        have h0 := hat 0 (by omega)
        rw [hb] at h0
        refine ⟨b, fun _ => ?_⟩
        have h1 : (x.add (i * 1)).add 0 = x.add i := by rw [Go.Deep.add_add]; simp
        rw [h1] at h0
        simpa using h0
      · exact ⟨false, fun h => absurd h hil⟩
    refine ⟨⟨hl, fun hn => ?_⟩, by omega⟩
    obtain ⟨b, off, spot⟩ := x
    obtain ⟨t0, h0⟩ := each 0
    have h0 := h0 hn
    have hsp : spot = none := by simpa [Addr.add] using World.cell?_spot h0
    subst hsp
    have e1 : ∀ k, (⟨b, off, none⟩ : Addr).add k = ⟨b, off + k, none⟩ := fun k => by unfold Addr.add; split <;> simp_all
    refine ⟨b, off, rfl, by simpa [Addr.add] using World.block_lt_of_cell? W _ h0, fun i hi2 => ?_⟩
    obtain ⟨t, ht⟩ := each i
    have ht := ht hi2
    rw [e1] at ht
    exact ⟨t, ht⟩
end
end Go.Proofs.Ytdjopbhjfnakdaa
