/- RateNumbers' walk: a closed sentence of three loops. -/
import Derived.Test.YtnhjcmfekckfgaaRatT
namespace Go.Proofs.Ytnhjcmfekckfgaa
open Go.RowKit
set_option linter.unusedVariables false
set_option linter.unusedSimpArgs false
set_option maxRecDepth 20000

theorem bits_at (j : Nat) (hj : j < 8) : ∃ x : Int, I64 x ∧ (#[Value.int .i64 (-1), .int .i64 0, .int .i64 1, .int .i64 2, .int .i64 17, .int .i64 18, .int .i64 24, .int .i64 25] : Array Value)[j]? = some (.int .i64 x) := by
  have h : j = 0 ∨ j = 1 ∨ j = 2 ∨ j = 3 ∨ j = 4 ∨ j = 5 ∨ j = 6 ∨ j = 7 := by omega
  rcases h with rfl | rfl | rfl | rfl | rfl | rfl | rfl | rfl <;> exact ⟨_, by unfold I64; omega, rfl⟩
theorem wrap64_in (m : Int) : 0 ≤ IntKind.u64.wrap m ∧ IntKind.u64.wrap m < 18446744073709551616 := by
  have := IntKind.wrap_u64 m
  omega
theorem mod32_in (m : Int) : 0 ≤ m % 4294967296 ∧ m % 4294967296 < 4294967296 := by omega
set_option maxHeartbeats 1000000 in
theorem rateNumbers_walk (w : World) : Calls Try.prog 3 #[] w (Yes w) := by
  go_enter Try.func3, Try.ntmps3
  go_wp2_with fail
  go_loopw [1, 2, 4, 13, 14, 15] (fun i _ _ _ _ _ wr => ∃ q : Nat, q ≤ 64 ∧ i = .int .u64 (q : Int) ∧ Below w.heap.size w wr) (fun i _ _ _ _ _ _ => 64 - (intOf i).toNat)
  case atStart => exact ⟨0, by omega, rfl, Below.refl _ _⟩
  case round =>
    obtain ⟨q, hq, rfl, b0⟩ := hrel
    by_cases hlt : q < 64
    · have g1 : (q : Int) < 64 := by omega
      have gq : (0 : Int) ≤ (q : Int) := by omega
      go_wp2_with fail
      go_loopw [2, 4, 13, 14, 15] (fun d _ _ _ _ wr => ∃ p : Nat, p ≤ 3 ∧ d = .int .u64 (p : Int) ∧ Below w.heap.size w wr) (fun d _ _ _ _ _ => 3 - (intOf d).toNat)
      case atStart => exact ⟨0, by omega, rfl, b0⟩
      case round =>
        obtain ⟨p, hp, rfl, b1⟩ := hrel
        clear b0
        by_cases hlp : p < 3
        · have g2 : (p : Int) < 3 := by omega
          go_wp2_with fail
          have hblk : Blk (wr.alloc (.cells #[Value.int .i64 (-1), .int .i64 0, .int .i64 1, .int .i64 2, .int .i64 17, .int .i64 18, .int .i64 24, .int .i64 25] 3)) wr.heap.size 3 #[Value.int .i64 (-1), .int .i64 0, .int .i64 1, .int .i64 2, .int .i64 17, .int .i64 18, .int .i64 24, .int .i64 25] := Blk.new _ _ _
          have b2 : Below w.heap.size w (wr.alloc (.cells #[Value.int .i64 (-1), .int .i64 0, .int .i64 1, .int .i64 2, .int .i64 17, .int .i64 18, .int .i64 24, .int .i64 25] 3)) := b1.alloc b1.size _
          clear b1
          generalize wr.alloc (.cells #[Value.int .i64 (-1), .int .i64 0, .int .i64 1, .int .i64 2, .int .i64 17, .int .i64 18, .int .i64 24, .int .i64 25] 3) = W at hblk b2 ⊢
          generalize wr.heap.size = L at hblk ⊢
          have hLW := hblk.lt
          go_loopw [4, 15] (fun _ i wr => ∃ j : Nat, j ≤ 8 ∧ i = .int .i64 (j : Int) ∧ Below W.heap.size W wr) (fun _ i _ => 8 - (intOf i).toNat)
          case atStart => exact ⟨0, by omega, rfl, Below.refl _ _⟩
          case round =>
            obtain ⟨j, hj, rfl, b3⟩ := hrel
            by_cases hjl : j < 8
            · have g3 : decide ((j : Int) < 8) = true := by simp; omega
              have g4 : (j : Int) < 8 := by omega
              obtain ⟨x, hx64, hpc⟩ := bits_at j hjl
              have x0 : wr.cell? ⟨L, j, none⟩ = some (.int .i64 x) := by rw [(hblk.below b3 hLW).cell j]; exact hpc
              clear hpc hblk
              go_wp2_with fail
              ((with_reducible refine (same5_i _ _ _ _ _ (wrap64_in _) (mod32_in _) (by unfold I64; omega) hx64).mono ?_); rintro e w1 ⟨rfl, b4⟩)
              have b4 := b3.trans (b4.mono b3.size)
              clear b3 x0
              go_wp2_with fail
              ((with_reducible refine (same5_i _ _ _ _ _ (wrap64_in _) (by omega) (by unfold I64; omega) hx64).mono ?_); rintro e w2 ⟨rfl, b5⟩)
              have b5 := b4.trans (b5.mono b4.size)
              clear b4
              go_wp2_with fail
              go_roundw
              case rel => exact ⟨j + 1, by omega, by go_num, b5⟩
              case measure => simp [intOf]; omega
            · have g3 : ¬ (j : Int) < 8 := by omega
              go_wp2_with fail
              go_roundw
              case rel => exact ⟨p + 1, by omega, by go_num, b2.trans (b3.mono b2.size)⟩
              case measure => simp [intOf]; omega
        · have g2 : ¬ (p : Int) < 3 := by omega
          go_wp2_with fail
          go_roundw
          case rel => exact ⟨q + 1, by omega, by go_num, b1⟩
          case measure => simp [intOf]; omega
    · have g1 : ¬ (q : Int) < 64 := by omega
      go_wp2_with fail
      ((with_reducible refine (same5_i _ _ _ _ _ (by omega) (by omega) (by unfold I64; omega) (by unfold I64; omega)).mono ?_); rintro e w1 ⟨rfl, b1⟩)
      have b1 := b0.trans (b1.mono b0.size)
      clear b0
      go_wp2_with fail
      ((with_reducible refine (same5_i _ _ _ _ _ (by omega) (by omega) (by unfold I64; omega) (by unfold I64; omega)).mono ?_); rintro e w2 ⟨rfl, b2⟩)
      have b2 := b1.trans (b2.mono b1.size)
      clear b1
      go_wp2_with fail
      ((with_reducible refine (known5_any _).mono ?_); rintro e w3 ⟨rfl, b3⟩)
      have b3 := b2.trans (b3.mono b2.size)
      clear b2
      go_wp2_with fail
      go_ret
      exact ⟨rfl, b3⟩
end Go.Proofs.Ytnhjcmfekckfgaa
