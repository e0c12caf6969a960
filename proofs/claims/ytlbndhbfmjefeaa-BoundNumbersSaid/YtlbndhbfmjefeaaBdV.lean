/- What BoundTurned's walk wants: owners set one by one, a row turned about, the least rate. -/
import Derived.Test.YtlbndhbfmjefeaaBdH
import Derived.Test.YtlbndhbfmjefeaaRegD
namespace Go.Proofs.Ytlbndhbfmjefeaa
open Go.RowKit
set_option linter.unusedVariables false
set_option linter.unusedSimpArgs false
set_option maxRecDepth 20000

theorem cellsT_set : ∀ (L : List Tup) (q o : Nat) (h : q < L.length), (cellsT L).set (q * 3) (.int .u32 (o : Int)) = cellsT (L.set q ⟨o, L[q].rate, L[q].over⟩)
  | x :: r, 0, o, _ => rfl
  | x :: r, q + 1, o, h => by
    have ih := cellsT_set r q o (by simpa using h)
    have e1 : cellsT (x :: r) = .int .u32 (x.owner : Int) :: .int .u64 (x.rate : Int) :: .int .i64 x.over :: cellsT r := rfl
    have e2 : (q + 1) * 3 = q * 3 + 3 := by omega
    rw [e1, e2]
    show .int .u32 (x.owner : Int) :: .int .u64 (x.rate : Int) :: .int .i64 x.over :: (cellsT r).set (q * 3) (.int .u32 (o : Int)) = _
    rw [ih]
    rfl
theorem OwnTp.setOwner {w : World} {base g off n c q o : Nat} {L : List Tup} (h : OwnTp w base (.slice (some ⟨g, off, none⟩) n c) L) (hq : q < L.length) : OwnTp (w.setCell ⟨g, off + q * 3, none⟩ (.int .u32 (o : Int))) base (.slice (some ⟨g, off, none⟩) n c) (L.set q ⟨o, L[q].rate, L[q].over⟩) := by
  obtain ⟨hl, ⟨e, _⟩ | ⟨g', cap, cur, e, hb, hg, hnc, hcm, hcs, htk⟩⟩ := h
  · cases e
  · injection e with e1 e2 e3
    injection e1 with e1
    injection e1 with e1 e4
    subst e1 e2 e3 e4
    refine ⟨by rw [cellsT_len], .inr ⟨g, c, cur.setIfInBounds (q * 3) (.int .u32 (o : Int)), by rw [List.length_set], hb, ?_, by rw [List.length_set]; exact hnc, hcm, by simpa using hcs, ?_⟩⟩
    · rw [Nat.zero_add]
      simp [World.setCell, Array.getElem?_modify, hg]
    · rw [Array.toList_setIfInBounds, List.length_set, ← cellsT_set L q o hq, ← htk, List.take_set]
theorem foldR_min (l : List Ln) : ∀ n, n ≤ 18446744073709551615 → l.foldl (fun n (t : Ln) => min n t.r) n = min n (minR l) := by
  induction l with
  | nil => intro n hn; show n = min n 18446744073709551615; omega
  | cons t l ih =>
    intro n hn
    have h1 := ih (min n t.r) (by omega)
    have h2 := ih (min 18446744073709551615 t.r) (by omega)
    have h3 := minR_le l
    show l.foldl (fun n (t : Ln) => min n t.r) (min n t.r) = min n (l.foldl (fun n (t : Ln) => min n t.r) (min 18446744073709551615 t.r))
    rw [h1, h2]
    omega
theorem minR_app (a b : List Ln) : minR (a ++ b) = min (minR a) (minR b) := by
  unfold minR
  rw [List.foldl_append]
  exact foldR_min b _ (minR_le a)
theorem minR_turn (l : List Ln) (j : Nat) : minR (l.drop j ++ l.take j) = minR l := by
  have h : minR l = minR (l.take j ++ l.drop j) := by rw [List.take_append_drop]
  rw [h, minR_app, minR_app, Nat.min_comm]
theorem minR_mem : ∀ {l : List Ln} {t : Ln}, t ∈ l → minR l ≤ t.r
  | x :: r, t, h => by
    have e : minR (x :: r) = min (min 18446744073709551615 x.r) (minR r) := foldR_min r (min 18446744073709551615 x.r) (by omega)
    rcases List.mem_cons.1 h with rfl | h
    · omega
    · have := minR_mem h
      omega
theorem le_minR {k : Nat} (hk : k ≤ 18446744073709551615) : ∀ {l : List Ln}, (∀ t ∈ l, k ≤ t.r) → k ≤ minR l
  | [], _ => hk
  | x :: r, h => by
    have e : minR (x :: r) = min (min 18446744073709551615 x.r) (minR r) := foldR_min r (min 18446744073709551615 x.r) (by omega)
    have h1 := h x (by simp)
    have h2 := le_minR hk (l := r) fun t ht => h t (by simp [ht])
    omega
theorem least_min {l : List Ln} {a : Ln} (h : IsLeast l a) (ha : a.In) : minR l = a.r := by
  have h1 := minR_mem h.1
  have h2 := le_minR (k := a.r) (by have := ha.r; omega) (l := l) fun t ht => by
    have := h.2 t ht
    unfold fstL at this
    omega
  omega
theorem turn_mem {l : List Ln} (j : Nat) : ∀ t, t ∈ l ↔ t ∈ l.drop j ++ l.take j := fun t => by
  have h : t ∈ l ↔ t ∈ l.take j ++ l.drop j := by rw [List.take_append_drop]
  rw [h, List.mem_append, List.mem_append]
  exact Or.comm
theorem held_turn (L : List Tup) (j : Nat) : heldR (L.drop j ++ L.take j) = (heldR L).drop j ++ (heldR L).take j := by
  unfold heldR
  rw [List.map_append, List.map_drop, List.map_take]
/-- The rest of a row of tuples, from place j on. -/
theorem cut_from {w : World} {A : Option Addr} {n c j : Nat} {L : List Tup} (h : RT w w.heap.size A n c L) (hj : j < n) : ∃ A' c', (∀ W, (Instr.slice 22 (.slice A n c) (some (.int .i64 (j : Int))) none none).run Try.prog W = .ok (.slice A' (n - j) c') W) ∧ RT w w.heap.size A' (n - j) c' (L.drop j) := by
  obtain ⟨b, off, rfl, hb, hc⟩ := h.2.2.2.2 (by omega)
  have hl := h.1
  have hnc := h.2.2.2.1
  obtain ⟨i0, hi0, hz0, hz1, hz2⟩ := info_parts tup_info
  have hs : Try.prog.elem 22 = 30 := by simp [Program.elem, Try.underlying22]
  have hadd : (⟨b, off, none⟩ : Addr).add (j * 3) = ⟨b, off + j * 3, none⟩ := by unfold Addr.add; split <;> simp_all
  refine ⟨some ⟨b, off + j * 3, none⟩, c - j, fun W => ?_, ?_⟩
  · have h3 := run_slice_l (P := Try.prog) W 22 (some ⟨b, off, none⟩) n c (by rw [hs]; exact Try.underlying22) .i64 (j : Int) (by omega) (by omega)
    rw [hs] at h3
    rw [h3]
    have hcj : ¬ c = j := by omega
    simp [sizeOf, typeInfo, hi0, hz1, sliced, Result.andThen, hcj, hadd]
  · refine ⟨by rw [List.length_drop, hl], fun t ht => h.2.1 t (List.mem_of_mem_drop ht), ⟨by rw [cellsT_len, List.length_drop, hl], by omega, fun _ => ⟨b, off + j * 3, rfl, hb, fun i v hi => ?_⟩⟩⟩
    have e2 : cellsT L = cellsT (L.take j) ++ cellsT (L.drop j) := by rw [← cellsT_app, List.take_append_drop]
    have hlt : (cellsT (L.take j)).length = j * 3 := by rw [cellsT_len, List.length_take]; congr 1; omega
    have := hc (j * 3 + i) v (by rw [e2, List.getElem?_append_right (by omega), hlt, show j * 3 + i - j * 3 = i by omega]; exact hi)
    rwa [show off + (j * 3 + i) = off + j * 3 + i by omega] at this
end Go.Proofs.Ytlbndhbfmjefeaa
