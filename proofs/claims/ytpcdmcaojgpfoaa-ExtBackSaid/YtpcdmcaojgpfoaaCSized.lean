/- Contract: octet.sized. -/
import Derived.Test.YtpcdmcaojgpfoaaBase
namespace Go.Proofs.Ytpcdmcaojgpfoaa
open Go.RowKit
set_option linter.unusedVariables false
set_option linter.unusedSimpArgs false
set_option maxRecDepth 20000

theorem sized_any (n : Int) (w : World) :
    Calls Try.prog 73 #[.int .i64 n] w fun e w' => e = .returned (.bool (szB n)) ∧ w = w' := by
  by_cases h1 : 1 ≤ n
  · by_cases h2 : n ≤ 8
    · have hs : szB n = true := by simp [szB, h1, h2]
      go_enter Try.func73, Try.ntmps73
      go_wp2
      go_ret
      simp [hs]
    · have hs : szB n = false := by simp [szB]; omega
      go_enter Try.func73, Try.ntmps73
      go_wp2
      go_ret
      simp [hs]
  · have hs : szB n = false := by simp [szB]; omega
    go_enter Try.func73, Try.ntmps73
    go_wp2
    go_ret
    simp [hs]
end Go.Proofs.Ytpcdmcaojgpfoaa
