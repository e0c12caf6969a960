/- Contract: limelightbook.Within, its number chosen ahead of the world. -/
import Derived.Test.YtlbndhbfmjefeaaCWithin
namespace Go.Proofs.Ytlbndhbfmjefeaa
open Go.RowKit
set_option linter.unusedVariables false
set_option linter.unusedSimpArgs false
set_option maxRecDepth 20000

theorem within_ex (x lo hi : Int) (hx : I64 x) (h0 : 0 ≤ lo) (h1 : lo ≤ hi) (h2 : hi ≤ 281474976710656) :
    ∃ r : Int, lo ≤ r ∧ r ≤ hi ∧ (lo ≤ x → x ≤ hi → r = x) ∧ ∀ w, Calls Try.prog 32 #[.int .i64 x, .int .i64 lo, .int .i64 hi] w fun e w' => e = .returned (.int .i64 r) ∧ w' = w := by
  by_cases c1 : lo ≤ x ∧ x ≤ hi
  · refine ⟨x, c1.1, c1.2, fun _ _ => rfl, fun w => ?_⟩
    obtain ⟨c1, c2⟩ := c1
    go_enter Try.func32, Try.ntmps32
    go_wp2
    go_ret
    exact ⟨rfl, rfl⟩
  · have m1 := Int.lt_tmod_of_pos x (show 0 < hi - lo + 1 by omega)
    have m2 := Int.tmod_lt_of_pos x (show 0 < hi - lo + 1 by omega)
    have m3 := Int.emod_nonneg x (show hi - lo + 1 ≠ 0 by omega)
    have m4 := Int.emod_lt_of_pos x (show 0 < hi - lo + 1 by omega)
    by_cases c2 : lo ≤ x
    · refine ⟨lo + x % (hi - lo + 1), by omega, by omega, fun a b => absurd ⟨a, b⟩ c1, fun w => ?_⟩
      go_enter Try.func32, Try.ntmps32
      go_wp2
      go_ret
      exact ⟨rfl, rfl⟩
    · by_cases c3 : x.tmod (hi - lo + 1) < 0
      · refine ⟨lo + (x.tmod (hi - lo + 1) + hi - lo + 1), by omega, by omega, fun a b => absurd ⟨a, b⟩ c1, fun w => ?_⟩
        go_enter Try.func32, Try.ntmps32
        go_wp2
        go_ret
        exact ⟨rfl, rfl⟩
      · refine ⟨lo + x.tmod (hi - lo + 1), by omega, by omega, fun a b => absurd ⟨a, b⟩ c1, fun w => ?_⟩
        go_enter Try.func32, Try.ntmps32
        go_wp2
        go_ret
        exact ⟨rfl, rfl⟩
end Go.Proofs.Ytlbndhbfmjefeaa
