/- What contracts of numbers stand on: an int's range. No program's function, no type of a seat. -/
import Derived.Test.YtjlafpnlkdbkfaaMem
import Derived.IntWalk
import Derived.Maps.AppendAt
import Derived.OwnWalk
namespace Go.Proofs.Ytjlafpnlkdbkfaa
open Go.RowKit
set_option linter.unusedVariables false
set_option linter.unusedSimpArgs false
set_option maxRecDepth 20000

/-- An int's range, behind a name. -/
def I64 (n : Int) : Prop := -9223372036854775808 ≤ n ∧ n ≤ 9223372036854775807
theorem I64.of_wf {n : Int} (h : (Lit.int .i64 n).wf = true) : I64 n := by
  simpa [Lit.wf, IntKind.min, IntKind.max, IntKind.signed, IntKind.bits, I64] using h
theorem wrap_i64 {n : Int} (h : I64 n) : wrap64 n = n := by
  unfold I64 at h
  unfold wrap64
  omega
end Go.Proofs.Ytjlafpnlkdbkfaa
