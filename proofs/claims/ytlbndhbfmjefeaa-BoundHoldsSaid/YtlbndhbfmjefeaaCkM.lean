/- Contract: clock.Less. -/
import Derived.Test.YtlbndhbfmjefeaaCkG
import Derived.Test.YtlbndhbfmjefeaaCkL
namespace Go.Proofs.Ytlbndhbfmjefeaa
open Go.RowKit
set_option linter.unusedVariables false
set_option linter.unusedSimpArgs false
set_option maxRecDepth 20000

theorem clock_less (a b c d : Int) (ha : I64 a) (hb : I64 b) (hc : I64 c) (hd : I64 d) (w : World) : Calls Try.prog 39 #[.int .i64 a, .int .i64 b, .int .i64 c, .int .i64 d] w (Sti (.bool (lessC a b c d)) w) := by
  have la := po_lt ha
  have lb := po_lt hb
  have lc := po_lt hc
  have ld := po_lt hd
  have HE : Hid (lessC a b c d = decide (po a * po b < po c * po d)) := Lib.hid rfl
  generalize lessC a b c d = E at HE ⊢
  have c1 := Lib.hid (fun W => clock_whole a ha W)
  have c2 := Lib.hid (fun W => clock_whole b hb W)
  have c3 := Lib.hid (fun W => clock_whole c hc W)
  have c4 := Lib.hid (fun W => clock_whole d hd W)
  clear ha hb hc hd
  generalize po a = x at *
  generalize po b = y at *
  generalize po c = z at *
  generalize po d = u at *
  have w1 := Lib.hid (mul64_any x y (by omega) (by omega))
  have w2 := Lib.hid (mul64_any z u (by omega) (by omega))
  have HL := Lib.hid (halves_lt (x * y) (z * u))
  generalize x * y = X at w1 HL HE
  generalize z * u = Z at w2 HL HE
  generalize X / 18446744073709551616 = h1 at w1 HL
  generalize X % 18446744073709551616 = l1 at w1 HL
  generalize Z / 18446744073709551616 = h2 at w2 HL
  generalize Z % 18446744073709551616 = l2 at w2 HL
  clear la lb lc ld
  go_enter Try.func39, Try.ntmps39
  go_wp2_with fail
  refine (c1.out _).mono ?_
  rintro e w' ⟨rfl, rfl⟩
  go_wp2_with fail
  refine (c2.out _).mono ?_
  rintro e w' ⟨rfl, rfl⟩
  go_wp2_with fail
  refine (w1.out _).mono ?_
  rintro e w' ⟨rfl, rfl⟩
  go_wp2_with fail
  refine (c3.out _).mono ?_
  rintro e w' ⟨rfl, rfl⟩
  go_wp2_with fail
  refine (c4.out _).mono ?_
  rintro e w' ⟨rfl, rfl⟩
  go_wp2_with fail
  refine (w2.out _).mono ?_
  rintro e w' ⟨rfl, rfl⟩
  by_cases t1 : h1 < h2
  · have t1' : decide ((h1 : Int) < (h2 : Int)) = true := by simp; omega
    have hE : E = true := by rw [HE.out, decide_eq_true_eq]; exact HL.out.1 (.inl t1)
    subst hE
    go_wp2_with fail
    go_ret
    exact ⟨rfl, rfl⟩
  have t1' : decide ((h1 : Int) < (h2 : Int)) = false := by simp; omega
  by_cases t2 : h1 = h2
  · have t2' : ((h1 : Int) == (h2 : Int)) = true := by rw [beq_iff_eq]; omega
    by_cases t3 : l1 < l2
    · have t3' : decide ((l1 : Int) < (l2 : Int)) = true := by simp; omega
      have hE : E = true := by rw [HE.out, decide_eq_true_eq]; exact HL.out.1 (.inr ⟨t2, t3⟩)
      subst hE
      clear t2
      go_wp2_with fail
      go_ret
      exact ⟨rfl, rfl⟩
    · have t3' : decide ((l1 : Int) < (l2 : Int)) = false := by simp; omega
      have hE : E = false := by
        rw [HE.out, decide_eq_false_iff_not]
        intro h
        rcases HL.out.2 h with h | h
        · exact t1 h
        · exact t3 h.2
      subst hE
      clear t2
      go_wp2_with fail
      go_ret
      exact ⟨rfl, rfl⟩
  · have t2' : ((h1 : Int) == (h2 : Int)) = false := by rw [beq_eq_false_iff_ne]; omega
    have hE : E = false := by
      rw [HE.out, decide_eq_false_iff_not]
      intro h
      rcases HL.out.2 h with h | h
      · exact t1 h
      · exact t2 h.1
    subst hE
    go_wp2_with fail
    go_ret
    exact ⟨rfl, rfl⟩
end Go.Proofs.Ytlbndhbfmjefeaa
