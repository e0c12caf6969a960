/- Contracts: slices.Delete from the start of a row of slices, slices.Clone of bytes, pace.cost. -/
import Derived.Test.YtdjopbhjfnakdaaPqS
import Derived.Shelf.SlicesE.Clone
namespace Go.Proofs.Ytdjopbhjfnakdaa
open Go.RowKit
set_option linter.unusedVariables false
set_option linter.unusedSimpArgs false
set_option maxRecDepth 20000

theorem own_cut {w : World} {g n c m q : Nat} {ds : List Sl} (h : OwnB w 0 (.slice (some ⟨g, 0, none⟩) n c) ds) (hm : m ≤ n) :
    OwnB (Go.Sort.putRow encS (Go.Sort.ahead w q) g 0 (ds.toArray.toList.take 0 ++ ds.toArray.toList.drop m ++ List.replicate (m - 0) ((none, 0, 0) : Sl)).toArray) 0 (.slice (some ⟨g, 0, none⟩) (n - m) c) (ds.drop m) := by
  obtain ⟨hl, hn | ⟨g', cap, cur, e, _, hg, hnc, hcm, hcs, htk⟩⟩ := h
  · cases hn.1
  · injection e with e1 e2 e3
    injection e1 with e1
    injection e1 with e1
    subst e1 e2 e3
    have hdl : (ds.drop m).length = ds.length - m := by simp
    refine ⟨by simp, .inr ⟨g, c, Go.Sort.putCells encS 0 (ds.toArray.toList.take 0 ++ ds.toArray.toList.drop m ++ List.replicate (m - 0) ((none, 0, 0) : Sl)).toArray cur, by rw [hdl], Nat.zero_le _, ?_, by rw [hdl]; omega, hcm, by simp [Go.Sort.putCells, hcs], ?_⟩⟩
    · have hg' : (Go.Sort.ahead w q).heap[g]? = some (.cells cur 29 (0, 0)) := hg
      simp only [Go.Sort.putRow, Go.Sort.mapBlock, Array.getElem?_modify, if_true, hg', Option.map_some, Go.Sort.onCells]
    · apply List.ext_getElem?
      intro j
      rw [List.getElem?_take]
      by_cases hj : j < (ds.drop m).length * 1
      · rw [if_pos hj]
        have hj2 : j < ds.length - m := by simpa using hj
        have hjc : j < cur.size := by rw [hcs]; omega
        simp only [Go.Sort.putCells, Array.getElem?_toList, Array.getElem?_mapIdx, Array.getElem?_eq_getElem hjc, Option.map_some]
        rw [if_pos (by simp; omega)]
        have : m + j < ds.length := by omega
        simp [this]
        rw [List.getElem?_append_left (by simp; omega), List.getElem?_drop]
        simp [this]
      · rw [if_neg hj]
        symm
        rw [List.getElem?_eq_none]
        simp at hj ⊢
        omega
theorem row_onlyS (w : World) (g q : Nat) (d : Array Sl) : OnlyS (fun k => some k = some g) w (Go.Sort.putRow encS (Go.Sort.ahead w q) g 0 d) := by
  refine ⟨rfl, rfl, rfl, by simp [Go.Sort.putRow, Go.Sort.mapBlock, Go.Sort.ahead], fun k hk hn => ?_⟩
  have hne : ¬ g = k := fun e => hn (by rw [e])
  simp only [Go.Sort.putRow, Go.Sort.mapBlock, Array.getElem?_modify, if_neg hne]
  rfl
/-- What is left of a row where its first m go. -/
theorem pq_del {w : World} {A : Option Addr} {n c m : Nat} {ds : List Sl} (h : OwnB w 0 (.slice A n c) ds) (hm : m ≤ n) (hn : n ≤ 1000000) :
    Calls Try.prog 30 #[.slice A n c, .int .i64 0, .int .i64 (m : Int)] w (fun e w' => e = .returned (.slice A (n - m) c) ∧ OwnB w' 0 (.slice A (n - m) c) (ds.drop m) ∧ OnlyS (fun k => some k = (Value.slice A n c).ownBlock) w w') := by
  have hh := h
  obtain ⟨hl, ⟨e, h0⟩ | ⟨g, cap, cur, e, _, hg, hnc, hcm, hcs, htk⟩⟩ := h
  · injection e with e1 e2 e3
    subst e1 e2 e3
    have hm0 : m = 0 := by omega
    subst hm0
    have HH := Lib.hid hh
    clear hh hl h0 hm hn
    go_enter Try.func30, Try.ntmps30
    go_wp2_with fail
    go_ret
    exact ⟨rfl, HH.out, OnlyS.of (Below.refl _ _)⟩
  · injection e with e1 e2 e3
    subst e1 e2 e3
    obtain ⟨i0, hi0, hz0, hz1, hz2⟩ := info_parts bs_info
    have hH : Go.Sort.Holds encS w g 0 ds.toArray := by
      intro j hj
      have hj : j < ds.length := by simpa using hj
      have hB : Blk w g 29 cur := hg
      refine ⟨?_, hB.frozen _⟩
      rw [Nat.zero_add, hB.cell j, ← Array.getElem?_toList]
      have h1 : (cur.toList.take (ds.length * 1))[j]? = (ds.map encS)[j]? := by rw [htk]
      rw [List.getElem?_take, if_pos (by omega)] at h1
      rw [h1, getElem!_pos _ _ (by simpa using hj)]
      simp [hj]
    have := AnyE.slices_Delete lays45 encS encS_one ((none, 0, 0) : Sl) Try.zeroValue29 i0 hi0 hz1 g 0 c 0 m ds.toArray w hH (by simpa using hnc) (by simp only [maxLen] at hcm; omega) (Nat.zero_le _) (by simpa using hm)
    refine (show Calls Try.prog 30 #[.slice (some ⟨g, 0, none⟩) ds.length c, .int .i64 0, .int .i64 (m : Int)] w _ from this).mono ?_
    rintro e w' ⟨rfl, q, rfl⟩
    exact ⟨rfl, by simpa using own_cut (q := q) hh hm, row_onlyS _ _ _ _⟩
/-- A copy of bytes: on a block of its own. -/
def ClnOut (x : List UInt8) (w : World) (e : Ending) (w' : World) : Prop := ∃ d : Sl, e = .returned (encS d) ∧ R8 w' w'.heap.size d.1 d.2.1 d.2.2 x ∧ (∀ k, bOf d = some k → w.heap.size ≤ k) ∧ Below w.heap.size w w'
theorem pq_clone {w : World} {A : Option Addr} {n c : Nat} {x : List UInt8} (hx : R8 w w.heap.size A n c x) (hn : n ≤ 100000) :
    Calls Try.prog 28 #[.slice A n c] w (ClnOut x w) := by
  have q22 : ∀ (w : World) (a : Option Addr) (n c n' c' : Nat), (binOp .eql 29 (.slice a n c) (.slice none n' c')).run Try.prog w = .ok (.bool a.isNone) w := fun w a n c n' c' => Lib.run_eql_slice_nil w _ _ a n c n' c' Try.underlying29
  have HX := Lib.hid hx
  cases A with
  | none =>
    have hn0 : n = 0 := by
      rcases Nat.eq_zero_or_pos n with h0 | h0
      · exact h0
      · obtain ⟨b, off, h, _⟩ := hx.2.2 h0
        cases h
    subst hn0
    clear hx
    go_enter Try.func28, Try.ntmps28
    go_wp2_with fail
    go_ret
    have hx0 : x = [] := List.eq_nil_of_length_eq_zero HX.out.1
    subst hx0
    exact ⟨(none, 0, 0), rfl, R8.nil _ _ _ _, fun k hk => by simp [bOf] at hk, Below.refl _ _⟩
  | some ad =>
    have ow := Own8.empty w w.heap.size (Nat.le_refl _)
    have hxa := hx.on (belowA w (.cells #[] 5))
    have hL := Lib.hid (show ([] : List UInt8).length + n ≤ 140737488355328 by simp; omega)
    have hS := (belowA w (.cells #[] 5)).size
    clear hx
    go_enter Try.func28, Try.ntmps28
    go_wp2_with (at_builtin; go_loud ((with_reducible refine wpList_append8 rfl (.tmp 5) (.tmp 6) rfl rfl w.heap.size (.slice (some ⟨w.heap.size, 0, none⟩) 0 0) [] (by with_unfolding_all rfl) ow _ (some ad) n c x (by with_unfolding_all rfl) hxa hL.out hS ?_); intro v9 w9 h9))
    go_ret
    have o9 := h9.1
    rw [List.nil_append] at o9
    obtain ⟨A9, c9, rfl, r9⟩ := Own8.r8 o9
    have b9 := h9.below (belowA w (.cells #[] 5)) hS ow (Nat.le_refl _)
    exact ⟨(A9, x.length, c9), rfl, r9, fun k hk => by
      match A9, x.length, o9, hk with
      | none, _, _, hb => simp [bOf] at hb
      | some ad, 0, _, hb => simp [bOf] at hb
      | some ad, n + 1, ho, hb =>
        have hb : ad.block = k := by simpa [bOf] using hb
        exact hb ▸ (World.ownsRow.lt ho ad.block rfl).1, b9⟩
theorem pq_cost {w : World} {A : Option Addr} {n c : Nat} (hn : n ≤ 100000) : Calls Try.prog 26 #[.slice A n c] w (Dn (.int .i64 ((n + 28 : Nat) : Int)) w) := by
  have y1 : IntKind.i64.wrap ((n : Int) + 28) = ((n + 28 : Nat) : Int) := by rw [IntKind.wrap_i64]; omega
  obtain ⟨m, hm⟩ : ∃ m, m = n + 28 := ⟨_, rfl⟩
  rw [← hm] at y1 ⊢
  clear hm
  go_enter Try.func26, Try.ntmps26
  go_wp2_with fail
  go_ret
  exact ⟨rfl, 0, rfl⟩
end Go.Proofs.Ytdjopbhjfnakdaa
