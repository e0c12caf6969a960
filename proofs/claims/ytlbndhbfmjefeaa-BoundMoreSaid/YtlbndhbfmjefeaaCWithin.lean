/- Contract: limelightbook.Within. -/
import Derived.Test.YtlbndhbfmjefeaaBaz
namespace Go.Proofs.Ytlbndhbfmjefeaa
open Go.RowKit
set_option linter.unusedVariables false
set_option linter.unusedSimpArgs false
set_option maxRecDepth 20000

/-- Within: some number of the range. -/
def InR (lo hi : Int) (w : World) (e : Ending) (w' : World) : Prop := ∃ r : Int, e = .returned (.int .i64 r) ∧ lo ≤ r ∧ r ≤ hi ∧ w = w'
theorem within_any (x lo hi : Int) (w : World) (hx : I64 x) (h0 : 0 ≤ lo) (h1 : lo ≤ hi) (h2 : hi ≤ 281474976710656) :
    Calls Try.prog 32 #[.int .i64 x, .int .i64 lo, .int .i64 hi] w (InR lo hi w) := by
  by_cases c1 : lo ≤ x ∧ x ≤ hi
  · obtain ⟨c1, c2⟩ := c1
    go_enter Try.func32, Try.ntmps32
    go_wp2
    go_ret
    exact ⟨x, rfl, c1, c2, rfl⟩
  · have m1 := Int.lt_tmod_of_pos x (show 0 < hi - lo + 1 by omega)
    have m2 := Int.tmod_lt_of_pos x (show 0 < hi - lo + 1 by omega)
    have m3 := Int.emod_nonneg x (show hi - lo + 1 ≠ 0 by omega)
    have m4 := Int.emod_lt_of_pos x (show 0 < hi - lo + 1 by omega)
    by_cases c2 : lo ≤ x
    all_goals
      go_enter Try.func32, Try.ntmps32
      go_wp2
    all_goals go_ret
    all_goals exact ⟨_, rfl, by omega, by omega, rfl⟩
end Go.Proofs.Ytlbndhbfmjefeaa
