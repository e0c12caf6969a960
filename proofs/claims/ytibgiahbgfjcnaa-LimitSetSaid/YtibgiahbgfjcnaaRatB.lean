/- Contracts: limelightref1.Rate, limelight/rate.Bytes. -/
import Derived.Test.YtibgiahbgfjcnaaRatR
namespace Go.Proofs.Ytibgiahbgfjcnaa
open Go.RowKit
set_option linter.unusedVariables false
set_option linter.unusedSimpArgs false
set_option maxRecDepth 20000

theorem ref_rate (n : Nat) (w : World) (hn : n < 18446744073709551616) : Calls Try.prog 39 #[.int .u64 (n : Int)] w (AnsW (.int .i64 (btR n : Int)) w) := by
  go_enter Try.func39, Try.ntmps39
  go_wp2_with fail
  · have hv : (btR n : Int) = 1099511627776 := by unfold btR; omega
    go_ret
    rw [hv]
    exact ⟨rfl, Below.refl _ _⟩
  · have hv : (btR n : Int) = (n : Int) / 8 := by unfold btR; omega
    go_ret
    rw [hv]
    exact ⟨rfl, Below.refl _ _⟩
theorem rate_bytes (n : Nat) (w : World) (hn : n < 18446744073709551616) : Calls Try.prog 29 #[.int .u64 (n : Int)] w (AnsW (.int .i64 (btR n : Int)) w) := by
  go_enter Try.func29, Try.ntmps29
  go_wp2_with fail
  · have hv : (btR n : Int) = 1099511627776 := by unfold btR; omega
    go_ret
    rw [hv]
    exact ⟨rfl, Below.refl _ _⟩
  · have hv : (btR n : Int) = (n : Int) / 8 := by unfold btR; omega
    go_ret
    rw [hv]
    exact ⟨rfl, Below.refl _ _⟩
end Go.Proofs.Ytibgiahbgfjcnaa
