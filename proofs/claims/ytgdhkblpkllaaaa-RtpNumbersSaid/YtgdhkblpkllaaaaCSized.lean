/- Contract: octet.sized. -/
import Derived.Test.YtgdhkblpkllaaaaBase
namespace Go.Proofs.Ytgdhkblpkllaaaa
open Go.RowKit
set_option linter.unusedVariables false
set_option linter.unusedSimpArgs false

theorem sized_any (n : Int) (w : World) :
    Calls Try.prog 45 #[.int .i64 n] w fun e w' => e = .returned (.bool (szB n)) ∧ w = w' := by
  by_cases h1 : 1 ≤ n
  · by_cases h2 : n ≤ 8
    · have hs : szB n = true := by simp [szB, h1, h2]
      go_enter Try.func45, Try.ntmps45
      go_wp2
      go_ret
      simp [hs]
    · have hs : szB n = false := by simp [szB]; omega
      go_enter Try.func45, Try.ntmps45
      go_wp2
      go_ret
      simp [hs]
  · have hs : szB n = false := by simp [szB]; omega
    go_enter Try.func45, Try.ntmps45
    go_wp2
    go_ret
    simp [hs]
end Go.Proofs.Ytgdhkblpkllaaaa
