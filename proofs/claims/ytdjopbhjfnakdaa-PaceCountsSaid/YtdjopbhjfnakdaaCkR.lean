/- Contracts: limelightref9.Add, Mul. -/
import Derived.Test.YtdjopbhjfnakdaaCkS
import Derived.Laws.Bits64b
namespace Go.Proofs.Ytdjopbhjfnakdaa
open Go.RowKit
set_option linter.unusedVariables false
set_option linter.unusedSimpArgs false
set_option maxRecDepth 20000

theorem ref_add (a b : Int) (ha : I64 a) (hb : I64 b) (w : World) : Calls Try.prog 34 #[.int .i64 a, .int .i64 b] w (Sti (.int .i64 (addC a b : Nat)) w) := by
  have ma := po_max a
  have mb := po_max b
  have la := po_lt ha
  have lb := po_lt hb
  have HE : Hid ((addC a b : Nat) = min (po a + po b) 9223372036854775807) := Lib.hid rfl
  generalize addC a b = E at HE ⊢
  generalize po a = x at *
  generalize po b = y at *
  have y1 : IntKind.i64.wrap (9223372036854775807 - (y : Int)) = 9223372036854775807 - (y : Int) := by rw [IntKind.wrap_i64]; omega
  go_enter Try.func34, Try.ntmps34
  by_cases h : 9223372036854775807 - (y : Int) < (x : Int)
  · have t1 : decide (9223372036854775807 - (y : Int) < (x : Int)) = true := by simpa using h
    have hE : E = 9223372036854775807 := by rw [HE.out]; omega
    subst hE
    clear h
    go_wp2_with fail
    go_ret
    exact ⟨rfl, rfl⟩
  · have t1 : decide (9223372036854775807 - (y : Int) < (x : Int)) = false := by simpa using h
    have hE : E = x + y := by rw [HE.out]; omega
    subst hE
    have y2 : IntKind.i64.wrap ((x : Int) + (y : Int)) = ((x + y : Nat) : Int) := by rw [IntKind.wrap_i64]; omega
    clear h
    go_wp2_with fail
    go_ret
    exact ⟨rfl, rfl⟩
theorem ref_mul (a b : Int) (ha : I64 a) (hb : I64 b) (w : World) : Calls Try.prog 35 #[.int .i64 a, .int .i64 b] w (Sti (.int .i64 (mulC a b : Nat)) w) := by
  have ma := po_max a
  have mb := po_max b
  have la := po_lt ha
  have lb := po_lt hb
  have HE : Hid ((mulC a b : Nat) = min (po a * po b) 9223372036854775807) := Lib.hid rfl
  generalize mulC a b = E at HE ⊢
  have hax : 0 < po a → a = (po a : Int) := fun h => by unfold po at h ⊢; omega
  generalize po a = x at *
  generalize po b = y at *
  by_cases h0 : x = 0
  · subst h0
    have hE : E = 0 := by rw [HE.out]; simp
    subst hE
    have y2 : IntKind.i64.wrap (0 * (y : Int)) = 0 := by rw [Int.zero_mul, IntKind.wrap_i64]; rfl
    go_enter Try.func35, Try.ntmps35
    go_wp2_with fail
    go_ret
    exact ⟨rfl, rfl⟩
  have hax := hax (by omega)
  subst hax
  clear ma
  have t0 : decide ((0 : Int) < (x : Int)) = true := by simp; omega
  have hq : (9223372036854775807 : Int).tdiv (x : Int) = ((9223372036854775807 / x : Nat) : Int) := by
    rw [Int.tdiv_eq_ediv_of_nonneg (by omega)]; try rfl
  obtain ⟨Q, hQ⟩ : ∃ Q, Q = 9223372036854775807 / x := ⟨_, rfl⟩
  rw [← hQ] at hq
  have hQl : Q ≤ 9223372036854775807 := by rw [hQ]; exact Nat.div_le_self _ _
  have hQm := mul_over (a := x) (b := y) (m := 9223372036854775807) (by omega)
  rw [← hQ] at hQm
  have yQ := i64_nn Q hQl
  have hx0 : ¬ (x : Int) = 0 := by omega
  have hx1 : ((x : Int) == 0) = false := by simpa using hx0
  have hxm : ((x : Int) == -1) = false := by rw [beq_eq_false_iff_ne]; omega
  by_cases h : Q < y
  · have t1 : decide ((Q : Int) < (y : Int)) = true := by simp; omega
    have hE : E = 9223372036854775807 := by
      rw [HE.out]
      have := hQm.1 h
      generalize x * y = P at this ⊢
      omega
    subst hE
    have t2 : (Q : Int) < (y : Int) := by omega
    have t3 : ¬ (y : Int) ≤ (Q : Int) := by omega
    clear hQm hQ
    go_enter Try.func35, Try.ntmps35
    go_wp2_with fail
    go_ret
    exact ⟨rfl, rfl⟩
  · have t1 : decide ((Q : Int) < (y : Int)) = false := by simp; omega
    have hP : x * y ≤ 9223372036854775807 := by
      have := mt hQm.2 h
      omega
    have hE : E = x * y := by rw [HE.out]; omega
    subst hE
    have y2 : IntKind.i64.wrap ((x : Int) * (y : Int)) = ((x * y : Nat) : Int) := by rw [← Int.natCast_mul]; exact i64_nn _ hP
    have t2 : ¬ (Q : Int) < (y : Int) := by omega
    have t3 : (y : Int) ≤ (Q : Int) := by omega
    clear hQm hQ hP
    go_enter Try.func35, Try.ntmps35
    go_wp2_with fail
    go_ret
    exact ⟨rfl, rfl⟩
end Go.Proofs.Ytdjopbhjfnakdaa
