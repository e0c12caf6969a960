/- ClockNumbers' walk: a closed sentence of three loops. -/
import Derived.Test.YtjlafpnlkdbkfaaCkK
namespace Go.Proofs.Ytjlafpnlkdbkfaa
open Go.RowKit
set_option linter.unusedVariables false
set_option linter.unusedSimpArgs false
set_option maxRecDepth 20000

theorem nums_at (j : Nat) (hj : j < 15) : ∃ x : Int, I64 x ∧ (#[Value.int .i64 (-9223372036854775808), .int .i64 (-1), .int .i64 0, .int .i64 1, .int .i64 2, .int .i64 3, .int .i64 7, .int .i64 1048576, .int .i64 2147483647, .int .i64 4294967296, .int .i64 3037000499, .int .i64 3037000500, .int .i64 4611686018427387904, .int .i64 9223372036854775806, .int .i64 9223372036854775807] : Array Value)[j]? = some (.int .i64 x) := by
  have h : j = 0 ∨ j = 1 ∨ j = 2 ∨ j = 3 ∨ j = 4 ∨ j = 5 ∨ j = 6 ∨ j = 7 ∨ j = 8 ∨ j = 9 ∨ j = 10 ∨ j = 11 ∨ j = 12 ∨ j = 13 ∨ j = 14 := by omega
  rcases h with rfl | rfl | rfl | rfl | rfl | rfl | rfl | rfl | rfl | rfl | rfl | rfl | rfl | rfl | rfl <;> exact ⟨_, by unfold I64; omega, rfl⟩
set_option maxHeartbeats 1000000 in
theorem clockNumbers_walk (w : World) : Calls Try.prog 3 #[] w (Yes w) := by
  go_enter Try.func3, Try.ntmps3
  go_wp2_with fail
  have hblk : Blk (w.alloc (.cells #[Value.int .i64 (-9223372036854775808), .int .i64 (-1), .int .i64 0, .int .i64 1, .int .i64 2, .int .i64 3, .int .i64 7, .int .i64 1048576, .int .i64 2147483647, .int .i64 4294967296, .int .i64 3037000499, .int .i64 3037000500, .int .i64 4611686018427387904, .int .i64 9223372036854775806, .int .i64 9223372036854775807] 2)) w.heap.size 2 #[Value.int .i64 (-9223372036854775808), .int .i64 (-1), .int .i64 0, .int .i64 1, .int .i64 2, .int .i64 3, .int .i64 7, .int .i64 1048576, .int .i64 2147483647, .int .i64 4294967296, .int .i64 3037000499, .int .i64 3037000500, .int .i64 4611686018427387904, .int .i64 9223372036854775806, .int .i64 9223372036854775807] := Blk.new _ _ _
  have b0 : Below w.heap.size w (w.alloc (.cells #[Value.int .i64 (-9223372036854775808), .int .i64 (-1), .int .i64 0, .int .i64 1, .int .i64 2, .int .i64 3, .int .i64 7, .int .i64 1048576, .int .i64 2147483647, .int .i64 4294967296, .int .i64 3037000499, .int .i64 3037000500, .int .i64 4611686018427387904, .int .i64 9223372036854775806, .int .i64 9223372036854775807] 2)) := (Below.refl _ _).alloc (Nat.le_refl _) _
  generalize w.alloc (.cells #[Value.int .i64 (-9223372036854775808), .int .i64 (-1), .int .i64 0, .int .i64 1, .int .i64 2, .int .i64 3, .int .i64 7, .int .i64 1048576, .int .i64 2147483647, .int .i64 4294967296, .int .i64 3037000499, .int .i64 3037000500, .int .i64 4611686018427387904, .int .i64 9223372036854775806, .int .i64 9223372036854775807] 2) = W at hblk b0 ⊢
  have HB := Lib.hid (fun _ : Unit => b0)
  clear b0
  generalize hL : w.heap.size = L at hblk ⊢
  have HL := Lib.hid hL
  clear hL
  have hcell : ∀ j : Nat, j < 15 → ∃ x : Int, I64 x ∧ W.cell? ⟨L, j, none⟩ = some (.int .i64 x) := fun j hj => by
    obtain ⟨x, h1, h2⟩ := nums_at j hj
    exact ⟨x, h1, by rw [hblk.cell j]; exact h2⟩
  have HC := Lib.hid hcell

  clear hblk hcell
  go_loopw [3, 5, 7, 11, 15, 16, 17, 21, 22, 23] (fun _ _ _ i _ _ _ _ _ _ wr => ∃ q : Nat, q ≤ 15 ∧ i = .int .i64 (q : Int) ∧ W = wr) (fun _ _ _ i _ _ _ _ _ _ _ => 15 - (intOf i).toNat)
  case atStart => exact ⟨0, by omega, rfl, rfl⟩
  case round =>
    obtain ⟨q, hq, rfl, rfl⟩ := hrel
    by_cases hlt : q < 15
    · have g1 : (q : Int) < 15 := by omega
      obtain ⟨x, hx, x0⟩ := HC.out q hlt
      clear hlt
      go_wp2_with fail
      clear x0
      go_loopw [5, 7, 17, 21, 22, 23] (fun _ _ i _ _ _ wr => ∃ p : Nat, p ≤ 15 ∧ i = .int .i64 (p : Int) ∧ W = wr) (fun _ _ i _ _ _ _ => 15 - (intOf i).toNat)
      case atStart => exact ⟨0, by omega, rfl, rfl⟩
      case round =>
        obtain ⟨p, hp, rfl, rfl⟩ := hrel
        by_cases hlt2 : p < 15
        · have g2 : (p : Int) < 15 := by omega
          obtain ⟨y, hy, y0⟩ := HC.out p hlt2
          clear hlt2
          go_wp2_with fail
          clear y0
          go_loopw [7, 23] (fun _ i wr => ∃ r : Nat, r ≤ 15 ∧ i = .int .i64 (r : Int) ∧ W = wr) (fun _ i _ => 15 - (intOf i).toNat)
          case atStart => exact ⟨0, by omega, rfl, rfl⟩
          case round =>
            obtain ⟨r, hr, rfl, rfl⟩ := hrel
            by_cases hlt3 : r < 15
            · have g3 : (r : Int) < 15 := by omega
              obtain ⟨z, hz, z0⟩ := HC.out r hlt3
              clear hlt3
              go_wp2_with fail
              clear z0
              ((with_reducible refine (same9_any _ _ _ _ hx hy hz hy _).mono ?_); rintro e w' ⟨rfl, rfl⟩)
              go_wp2_with fail
              ((with_reducible refine (same9_any _ _ _ _ hx hy hy hz _).mono ?_); rintro e w' ⟨rfl, rfl⟩)
              go_wp2_with fail
              ((with_reducible refine (same9_any _ _ _ _ hy hz hx (by unfold I64; omega) _).mono ?_); rintro e w' ⟨rfl, rfl⟩)
              go_wp2_with fail
              go_roundw
              case rel => exact ⟨r + 1, by omega, by go_num, trivial⟩
              case measure => simp [intOf]; omega
            · have g3 : ¬ (r : Int) < 15 := by omega
              clear hlt3
              go_wp2_with fail
              go_roundw
              case rel => exact ⟨p + 1, by omega, by go_num, trivial⟩
              case measure => simp [intOf]; omega
        · have g2 : ¬ (p : Int) < 15 := by omega
          clear hlt2
          go_wp2_with fail
          go_roundw
          case rel => exact ⟨q + 1, by omega, by go_num, trivial⟩
          case measure => simp [intOf]; omega
    · have g1 : ¬ (q : Int) < 15 := by omega
      clear hlt
      go_wp2_with fail
      ((with_reducible refine (known9_any _).mono ?_); rintro e w' ⟨rfl, rfl⟩)
      go_wp2_with fail
      go_ret
      exact ⟨rfl, HB.out ()⟩
end Go.Proofs.Ytjlafpnlkdbkfaa
