/- Contracts: limelightref9.Add. -/
import Derived.Test.YtfijlgkgbbemnaaCkS
import Derived.Laws.Bits64b
namespace Go.Proofs.Ytfijlgkgbbemnaa
open Go.RowKit
set_option linter.unusedVariables false
set_option linter.unusedSimpArgs false
set_option maxRecDepth 20000

theorem ref_add (a b : Int) (ha : I64 a) (hb : I64 b) (w : World) : Calls Try.prog 38 #[.int .i64 a, .int .i64 b] w (Sti (.int .i64 (addC a b : Nat)) w) := by
  have ma := po_max a
  have mb := po_max b
  have la := po_lt ha
  have lb := po_lt hb
  have HE : Hid ((addC a b : Nat) = min (po a + po b) 9223372036854775807) := Lib.hid rfl
  generalize addC a b = E at HE ⊢
  generalize po a = x at *
  generalize po b = y at *
  have y1 : IntKind.i64.wrap (9223372036854775807 - (y : Int)) = 9223372036854775807 - (y : Int) := by rw [IntKind.wrap_i64]; omega
  go_enter Try.func38, Try.ntmps38
  by_cases h : 9223372036854775807 - (y : Int) < (x : Int)
  · have t1 : decide (9223372036854775807 - (y : Int) < (x : Int)) = true := by simpa using h
    have hE : E = 9223372036854775807 := by rw [HE.out]; omega
    subst hE
    clear h
    go_wp2_with fail
    go_ret
    exact ⟨rfl, rfl⟩
  · have t1 : decide (9223372036854775807 - (y : Int) < (x : Int)) = false := by simpa using h
    have hE : E = x + y := by rw [HE.out]; omega
    subst hE
    have y2 : IntKind.i64.wrap ((x : Int) + (y : Int)) = ((x + y : Nat) : Int) := by rw [IntKind.wrap_i64]; omega
    clear h
    go_wp2_with fail
    go_ret
    exact ⟨rfl, rfl⟩
end Go.Proofs.Ytfijlgkgbbemnaa
