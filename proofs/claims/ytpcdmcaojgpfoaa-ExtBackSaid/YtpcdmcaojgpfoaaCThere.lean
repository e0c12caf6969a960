/- Contract: octet.there. -/
import Derived.Test.YtpcdmcaojgpfoaaBase
namespace Go.Proofs.Ytpcdmcaojgpfoaa
open Go.RowKit
set_option linter.unusedVariables false
set_option linter.unusedSimpArgs false
set_option maxRecDepth 20000

theorem there_any (A : Option Addr) (l c : Nat) (at' n : Int) (w : World) (ha : I64 at') (hl : l ≤ 281474976710656) :
    Calls Try.prog 69 #[.slice A l c, .int .i64 at', .int .i64 n] w fun e w' => e = .returned (.bool (thB l at' n)) ∧ w = w' := by
  have hw : wrap64 ((l : Int) - at') = (l : Int) - at' ∨ ¬ 0 ≤ at' := by
    by_cases h : 0 ≤ at'
    · left; exact wrap_i64 (by unfold I64 at *; omega)
    · exact Or.inr h
  by_cases h1 : 0 ≤ at'
  · have hw' := Lib.hid (hw.resolve_right (by omega)); clear hw
    by_cases h2 : 0 ≤ n
    · by_cases h3 : n ≤ (l : Int) - at'
      · have hs : thB l at' n = true := by simp [thB]; omega
        go_enter Try.func69, Try.ntmps69
        go_wp2
        all_goals go_ret
        all_goals simp [hs]
      · have hs : thB l at' n = false := by simp [thB]; omega
        go_enter Try.func69, Try.ntmps69
        go_wp2
        all_goals go_ret
        all_goals simp [hs, hw'.out]; omega
    · have hs : thB l at' n = false := by simp [thB]; omega
      go_enter Try.func69, Try.ntmps69
      go_wp2
      go_ret
      simp [hs]
  · clear hw
    have hs : thB l at' n = false := by simp [thB]; omega
    go_enter Try.func69, Try.ntmps69
    go_wp2
    go_ret
    simp [hs]
end Go.Proofs.Ytpcdmcaojgpfoaa
