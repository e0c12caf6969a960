/- Contract: slices.Concat of two rows of bytes. -/
import Derived.Test.YtpcdmcaojgpfoaaCRConcat
namespace Go.Proofs.Ytpcdmcaojgpfoaa
open Go.RowKit
set_option linter.unusedVariables false
set_option linter.unusedSimpArgs false
set_option maxRecDepth 20000

set_option maxHeartbeats 4000000 in
theorem concat2 (g : Nat) (A1 A2 : Option Addr) (n1 c1 n2 c2 : Nat) (l1 l2 : List UInt8) (w : World) (hg : g < w.heap.size)
    (k0 : w.cell? ⟨g, 0, none⟩ = some (.slice A1 n1 c1)) (k1 : w.cell? ⟨g, 1, none⟩ = some (.slice A2 n2 c2))
    (h1 : R8 w w.heap.size A1 n1 c1 l1) (h2 : R8 w w.heap.size A2 n2 c2 l2) (hn : n1 + n2 ≤ 1000000) :
    Calls Try.prog 47 #[.slice (some ⟨g, 0, none⟩) 2 2] w (Out8 w (l1 ++ l2)) := by
  have m1 := Lib.hid h1.1
  have m2 := Lib.hid h2.1
  go_enter Try.func47, Try.ntmps47
  go_wp2_with fail
  go_loop [3, 5, 11] (fun s _ i => (i = .int .i64 0 ∧ s = .int .i64 0) ∨ (i = .int .i64 1 ∧ s = .int .i64 (n1 : Int)) ∨ (i = .int .i64 2 ∧ s = .int .i64 ((n1 + n2 : Nat) : Int))) (fun _ _ i => 2 - (intOf i).toNat)
  case atStart => exact .inl ⟨rfl, rfl⟩
  case round =>
    rcases hrel with ⟨rfl, rfl⟩ | ⟨rfl, rfl⟩ | ⟨rfl, rfl⟩
    · clear k1 h1 h2
      have g0 : ¬ ((n1 : Int) < 0) := by omega
      go_wp2_with fail
      go_round
      case rel => exact .inr (.inl ⟨rfl, rfl⟩)
      case measure => decide
    · clear k0 h1 h2
      have g0 : ¬ ((n1 : Int) + (n2 : Int) < 0) := by omega
      go_wp2_with fail
      go_round
      case rel => exact .inr (.inr ⟨rfl, rfl⟩)
      case measure => decide
    · go_wp2_with fail
      refine (grow_nil (n1 + n2) _ hn).mono ?_
      rintro e w1 ⟨v, rfl, ho, hb⟩
      go_wp2_with fail
      go_loopw [6, 8, 27] (fun v _ i wr => Below w.heap.size w wr ∧ ((i = .int .i64 0 ∧ Own8 wr w.heap.size v []) ∨ (i = .int .i64 1 ∧ Own8 wr w.heap.size v l1) ∨ (i = .int .i64 2 ∧ Own8 wr w.heap.size v (l1 ++ l2)))) (fun _ _ i _ => 2 - (intOf i).toNat)
      case atStart => exact ⟨hb, .inl ⟨rfl, ho⟩⟩
      case round =>
        rename_i vr xr ir wr
        obtain ⟨hbr, hrel⟩ := hrel
        clear hb ho
        have j0 := (hbr.cell (p := ⟨g, 0, none⟩) hg).trans k0
        have j1 := (hbr.cell (p := ⟨g, 1, none⟩) hg).trans k1
        have r1 := h1.on hbr
        have r2 := h2.on hbr
        have hsz := hbr.size
        clear k0 k1 h1 h2
        rcases hrel with ⟨rfl, hor⟩ | ⟨rfl, hor⟩ | ⟨rfl, hor⟩
        · have hbb := Lib.hid (show ([] : List UInt8).length + n1 ≤ 140737488355328 by simp; omega)
          clear j1 r2
          go_wp2_with (at_builtin; go_loud (with_reducible refine wpList_append8 rfl (.tmp 31) (.tmp 32) rfl rfl w.heap.size _ [] (by with_unfolding_all rfl) hor wr.heap.size A1 n1 c1 l1 (by with_unfolding_all rfl) r1 hbb.out hsz ?_); intro v2 w3 ha2)
          have hb2 := ha2.below hbr hsz hor (Nat.le_refl _)
          go_roundw
          case rel => exact ⟨hb2, .inr (.inl ⟨rfl, by have := ha2.1; simpa using this⟩)⟩
          case measure => decide
        · have hbb := Lib.hid (show l1.length + n2 ≤ 140737488355328 by have := m1.out; simp; omega)
          clear j0 r1
          go_wp2_with (at_builtin; go_loud (with_reducible refine wpList_append8 rfl (.tmp 31) (.tmp 32) rfl rfl w.heap.size _ l1 (by with_unfolding_all rfl) hor wr.heap.size A2 n2 c2 l2 (by with_unfolding_all rfl) r2 hbb.out hsz ?_); intro v2 w3 ha2)
          have hb2 := ha2.below hbr hsz hor (Nat.le_refl _)
          go_roundw
          case rel => exact ⟨hb2, .inr (.inr ⟨rfl, ha2.1⟩)⟩
          case measure => decide
        · clear j0 j1 r1 r2
          go_wp2_with fail
          go_ret
          exact hor.out hbr
end Go.Proofs.Ytpcdmcaojgpfoaa
