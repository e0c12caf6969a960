/- Contracts: slices.Grow of no bytes, slices.Concat of three rows of bytes. -/
import Derived.Test.YtgjncaobcgjefaaBase
import Derived.Lib.AppendZerosOnto
import Derived.Lib.SliceRun
import Derived.Lib.Walk
namespace Go.Proofs.Ytgjncaobcgjefaa
open Go.RowKit
set_option linter.unusedVariables false
set_option linter.unusedSimpArgs false
set_option maxRecDepth 20000

theorem own8_cap (w : World) (g cap : Nat) (cur : Array Value) (base : Nat) (hb : base ≤ g) (hg : w.heap[g]? = some (.cells cur 5 (0, 0))) (hc : cap ≤ maxLen) (hs : cur.size = cap) : Own8 w base (.slice (some ⟨g, 0, none⟩) 0 cap) [] :=
  ⟨rfl, .inr ⟨g, cap, cur, rfl, hb, hg, Nat.zero_le _, hc, by omega, by simp⟩⟩
/-- What Grow leaves of no bytes: a row of its own, still empty. -/
def GrowOut (w : World) (e : Ending) (w' : World) : Prop := ∃ v, e = .returned v ∧ Own8 w' w.heap.size v [] ∧ Below w.heap.size w w'
set_option maxHeartbeats 1000000 in
theorem grow_nil (n : Nat) (w : World) (hn : n ≤ 1000000) :
    Calls Try.prog 32 #[.slice none 0 0, .int .i64 (n : Int)] w (GrowOut w) := by
  have h1 : ¬ ((n : Int) < 0) := by omega
  by_cases h0 : n = 0
  · subst h0
    go_enter Try.func32, Try.ntmps32
    go_wp2
    go_ret
    exact ⟨_, rfl, ⟨rfl, .inl ⟨rfl, rfl⟩⟩, Below.refl _ _⟩
  · obtain ⟨i0, hi0, hz0, hz1, hz2⟩ := info_parts u8_info
    have h4 : (n : Int) > 0 := by omega
    have hold : (Builtin.firstCells i0.size 0 (.slice none 0 0)).run Try.prog w.drew = .ok ([] : List Value).toArray w.drew := run_firstCells_none w.drew i0.size 0 0 0
    have hrz := Lib.run_append_grow_zeros (P := Try.prog) w 30 3 30 5 i0 _ .i64 .i64 Try.underlying30 Try.underlying3 hi0 hz0 none 0 0 [] hold n (by omega) (by omega) (by omega) (by omega) (by rw [hz2]; omega)
      (by rw [hz2]; exact growslice_fits (by omega) (by omega))
    simp only [Nat.zero_add] at hrz
    have hGn : n ≤ grownCap w n 0 5 := grownCap_ge w _ _ _
    have hGm := grownCap_le_maxLen w n 0 5 (by unfold maxLen; omega)
    obtain ⟨G, hG⟩ : ∃ G, G = grownCap w n 0 5 := ⟨_, rfl⟩
    rw [← hG] at hrz hGn hGm
    have hsz : ((([] : List Value).toArray ++ Builtin.zeroCells (Value.int .u8 0).cells n) ++ Builtin.zeroCells (Value.int .u8 0).cells (G - n)).size = G := by
      simp [Builtin.zeroCells, Value.cells]
      omega
    generalize (([] : List Value).toArray ++ Builtin.zeroCells (Value.int .u8 0).cells n) ++ Builtin.zeroCells (Value.int .u8 0).cells (G - n) = cs at hrz hsz
    have hGm' : G ≤ 9223372036854775807 := by unfold maxLen at hGm; omega
    have hsh := Lib.hid hsz
    have hGh := Lib.hid hGm
    clear hold hG hsz hGm hi0 hz0 hz1 hz2 h0
    go_enter Try.func32, Try.ntmps32
    go_wp2_with (at_builtin; refine Lib.wpList_append_run _ rfl _ _ _ _ rfl _ _ rfl rfl _ _ hrz ?_)
    go_ret
    refine ⟨_, rfl, own8_cap _ _ _ cs _ (Nat.le_refl _) (heap_alloc_new w.drew _) hGh.out hsh.out, ?_⟩
    exact (Below.refl w.heap.size w).drew.alloc (Nat.le_refl _) _
set_option maxHeartbeats 4000000 in
/-- Three rows, one behind the other, in a row of its own. -/
theorem concat3 (g : Nat) (A1 A2 A3 : Option Addr) (n1 c1 n2 c2 n3 c3 : Nat) (l1 l2 l3 : List UInt8) (w : World) (hg : g < w.heap.size)
    (k0 : w.cell? ⟨g, 0, none⟩ = some (.slice A1 n1 c1)) (k1 : w.cell? ⟨g, 1, none⟩ = some (.slice A2 n2 c2)) (k2 : w.cell? ⟨g, 2, none⟩ = some (.slice A3 n3 c3))
    (h1 : R8 w w.heap.size A1 n1 c1 l1) (h2 : R8 w w.heap.size A2 n2 c2 l2) (h3 : R8 w w.heap.size A3 n3 c3 l3) (hn : n1 + n2 + n3 ≤ 1000000) :
    Calls Try.prog 19 #[.slice (some ⟨g, 0, none⟩) 3 3] w fun e w' => ∃ v, e = .returned v ∧ Own8 w' w.heap.size v (l1 ++ (l2 ++ l3)) ∧ Below w.heap.size w w' := by
  have m1 := Lib.hid h1.1
  have m2 := Lib.hid h2.1
  have m3 := Lib.hid h3.1
  go_enter Try.func19, Try.ntmps19
  go_wp2_with fail
  go_loop [3, 5, 11] (fun s _ i => (i = .int .i64 0 ∧ s = .int .i64 0) ∨ (i = .int .i64 1 ∧ s = .int .i64 (n1 : Int)) ∨ (i = .int .i64 2 ∧ s = .int .i64 ((n1 + n2 : Nat) : Int)) ∨ (i = .int .i64 3 ∧ s = .int .i64 ((n1 + n2 + n3 : Nat) : Int))) (fun _ _ i => 3 - (intOf i).toNat)
  case atStart => exact .inl ⟨rfl, rfl⟩
  case round =>
    rcases hrel with ⟨rfl, rfl⟩ | ⟨rfl, rfl⟩ | ⟨rfl, rfl⟩ | ⟨rfl, rfl⟩
    · clear k1 k2 h1 h2 h3
      have g0 : ¬ ((n1 : Int) < 0) := by omega
      go_wp2_with fail
      go_round
      case rel => exact .inr (.inl ⟨rfl, rfl⟩)
      case measure => decide
    · clear k0 k2 h1 h2 h3
      have g0 : ¬ ((n1 : Int) + (n2 : Int) < 0) := by omega
      go_wp2_with fail
      go_round
      case rel => exact .inr (.inr (.inl ⟨rfl, rfl⟩))
      case measure => decide
    · clear k0 k1 h1 h2 h3
      have g0 : ¬ (((n1 + n2 : Nat) : Int) + (n3 : Int) < 0) := by omega
      go_wp2_with fail
      go_round
      case rel => exact .inr (.inr (.inr ⟨rfl, rfl⟩))
      case measure => decide
    · go_wp2_with fail
      refine (grow_nil (n1 + n2 + n3) _ hn).mono ?_
      rintro e w1 ⟨v, rfl, ho, hb⟩
      go_wp2_with fail
      go_loopw [6, 8, 27] (fun v _ i wr => Below w.heap.size w wr ∧ ((i = .int .i64 0 ∧ Own8 wr w.heap.size v []) ∨ (i = .int .i64 1 ∧ Own8 wr w.heap.size v l1) ∨ (i = .int .i64 2 ∧ Own8 wr w.heap.size v (l1 ++ l2)) ∨ (i = .int .i64 3 ∧ Own8 wr w.heap.size v (l1 ++ l2 ++ l3)))) (fun _ _ i _ => 3 - (intOf i).toNat)
      case atStart => exact ⟨hb, .inl ⟨rfl, ho⟩⟩
      case round =>
        rename_i vr xr ir wr
        obtain ⟨hbr, hrel⟩ := hrel
        clear hb ho
        have j0 := (hbr.cell (p := ⟨g, 0, none⟩) hg).trans k0
        have j1 := (hbr.cell (p := ⟨g, 1, none⟩) hg).trans k1
        have j2 := (hbr.cell (p := ⟨g, 2, none⟩) hg).trans k2
        have r1 := h1.on hbr
        have r2 := h2.on hbr
        have r3 := h3.on hbr
        have hsz := hbr.size
        clear k0 k1 k2 h1 h2 h3
        rcases hrel with ⟨rfl, hor⟩ | ⟨rfl, hor⟩ | ⟨rfl, hor⟩ | ⟨rfl, hor⟩
        · have hbb := Lib.hid (show ([] : List UInt8).length + n1 ≤ 140737488355328 by simp; omega)
          clear j1 j2 r2 r3
          go_wp2_with (at_builtin; go_loud (with_reducible refine wpList_append8 rfl (.tmp 31) (.tmp 32) rfl rfl w.heap.size _ [] (by with_unfolding_all rfl) hor wr.heap.size A1 n1 c1 l1 (by with_unfolding_all rfl) r1 hbb.out hsz ?_); intro v2 w3 ha2)
          have hb2 := ha2.below hbr hsz hor (Nat.le_refl _)
          go_roundw
          case rel => exact ⟨hb2, .inr (.inl ⟨rfl, by have := ha2.1; simpa using this⟩)⟩
          case measure => decide
        · have hbb := Lib.hid (show l1.length + n2 ≤ 140737488355328 by have := m1.out; simp; omega)
          clear j0 j2 r1 r3
          go_wp2_with (at_builtin; go_loud (with_reducible refine wpList_append8 rfl (.tmp 31) (.tmp 32) rfl rfl w.heap.size _ l1 (by with_unfolding_all rfl) hor wr.heap.size A2 n2 c2 l2 (by with_unfolding_all rfl) r2 hbb.out hsz ?_); intro v2 w3 ha2)
          have hb2 := ha2.below hbr hsz hor (Nat.le_refl _)
          go_roundw
          case rel => exact ⟨hb2, .inr (.inr (.inl ⟨rfl, ha2.1⟩))⟩
          case measure => decide
        · have hbb := Lib.hid (show (l1 ++ l2 : List UInt8).length + n3 ≤ 140737488355328 by have := m1.out; have := m2.out; simp; omega)
          clear j0 j1 r1 r2
          go_wp2_with (at_builtin; go_loud (with_reducible refine wpList_append8 rfl (.tmp 31) (.tmp 32) rfl rfl w.heap.size _ (l1 ++ l2) (by with_unfolding_all rfl) hor wr.heap.size A3 n3 c3 l3 (by with_unfolding_all rfl) r3 hbb.out hsz ?_); intro v2 w3 ha2)
          have hb2 := ha2.below hbr hsz hor (Nat.le_refl _)
          go_roundw
          case rel => exact ⟨hb2, .inr (.inr (.inr ⟨rfl, ha2.1⟩))⟩
          case measure => decide
        · clear j0 j1 j2 r1 r2 r3
          go_wp2_with fail
          go_ret
          exact ⟨_, rfl, by simpa using hor, hbr⟩
end Go.Proofs.Ytgjncaobcgjefaa
