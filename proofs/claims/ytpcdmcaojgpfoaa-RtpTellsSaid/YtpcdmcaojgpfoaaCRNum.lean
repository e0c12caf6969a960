/- Contracts: rtp.number, part. -/
import Derived.Test.YtpcdmcaojgpfoaaCOctGet
import Derived.Test.YtpcdmcaojgpfoaaCOctCut
namespace Go.Proofs.Ytpcdmcaojgpfoaa
open Go.RowKit
set_option linter.unusedVariables false
set_option linter.unusedSimpArgs false
set_option maxRecDepth 20000

theorem rtp_number (A : Option Addr) (n c : Nat) (l : List UInt8) (w : World) (h : R8 w w.heap.size A n c l) (hn : n ≤ 140737488355328) (i k : Int) (hi : I64 i) :
    Calls Try.prog 62 #[.slice A n c, .int .i64 i, .int .i64 k] w fun e w' => e = .returned (.int .u64 (getN l i k : Nat)) ∧ w = w' := by
  go_enter Try.func62, Try.ntmps62
  go_wp2_with fail
  refine (get_any A n c l _ h hn i k hi).mono ?_
  rintro e w' ⟨rfl, rfl⟩
  go_wp2_with fail
  go_ret
  exact ⟨rfl, rfl⟩
/-- part of what is there. -/
theorem rtp_part (A : Option Addr) (n c : Nat) (l : List UInt8) (w : World) (h : R8 w w.heap.size A n c l) (hn : n ≤ 1000000) (i j : Nat) (hij : i ≤ j) (hj : j ≤ n) :
    Calls Try.prog 63 #[.slice A n c, .int .i64 (i : Int), .int .i64 (j : Int)] w (Out8 w ((l.drop i).take (j - i))) := by
  have hl := Lib.hid h.1
  have hs : wrap64 ((j : Int) - (i : Int)) = ((j - i : Nat) : Int) := by unfold wrap64; omega
  go_enter Try.func63, Try.ntmps63
  go_wp2_with fail
  have e1 : (j : Int) - (i : Int) = ((j - i : Nat) : Int) := by omega
  rw [e1]
  refine (cut_yes A n c l _ h (by omega) i (j - i) (by omega)).mono ?_
  rintro e w' ⟨A', m, c', rfl, hr, hb⟩
  go_wp2_with fail
  go_ret
  exact ⟨A', m, c', rfl, hr, hb⟩
end Go.Proofs.Ytpcdmcaojgpfoaa
