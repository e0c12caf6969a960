/- Contract: limelightref9.Over. -/
import Derived.Test.YtiacdjnaefnhpaaCkR
namespace Go.Proofs.Ytiacdjnaefnhpaa
open Go.RowKit
set_option linter.unusedVariables false
set_option linter.unusedSimpArgs false
set_option maxRecDepth 20000

theorem ref_over (a b : Int) (ha : I64 a) (hb : I64 b) (w : World) : Calls Try.prog 14 #[.int .i64 a, .int .i64 b] w (Sti (.int .i64 (overC a b : Nat)) w) := by
  have ma := po_max a
  have mb := po_max b
  have la := po_lt ha
  have lb := po_lt hb
  have HE : Hid (overC a b = if po b = 0 then 0 else (po a + po b - 1) / po b) := Lib.hid rfl
  generalize overC a b = E at HE ⊢
  have hbx : 0 < po b → b = (po b : Int) := fun h => by unfold po at h ⊢; omega
  generalize po a = x at *
  generalize po b = y at *
  by_cases h0 : y = 0
  · subst h0
    clear hbx
    have hE : E = 0 := by rw [HE.out]; rfl
    subst hE
    go_enter Try.func14, Try.ntmps14
    go_wp2_with fail
    go_ret
    exact ⟨rfl, rfl⟩
  have hbx := hbx (by omega)
  subst hbx
  clear mb
  have HE2 : Hid (E = x / y + if 0 < x % y then 1 else 0) := Lib.hid (by rw [HE.out, if_neg h0, overC_up x y (by omega)])
  clear HE
  have hy0 : ¬ (y : Int) = 0 := by omega
  have hy1 : ((y : Int) == 0) = false := by simpa using hy0
  have hym : ((y : Int) == -1) = false := by rw [beq_eq_false_iff_ne]; omega
  have hq : (x : Int).tdiv (y : Int) = ((x / y : Nat) : Int) := by rw [Int.tdiv_eq_ediv_of_nonneg (by omega)]; rfl
  have hr : (x : Int).tmod (y : Int) = ((x % y : Nat) : Int) := by rw [Int.tmod_eq_emod_of_nonneg (by omega)]; rfl
  have hQl : x / y ≤ x := Nat.div_le_self _ _
  have hQr : 0 < x % y → x / y + 1 ≤ 9223372036854775807 := fun h => by
    have h1 := Nat.mod_lt x (show y > 0 by omega)
    have h2 := Nat.div_add_mod x y
    have h3 : 2 * (x / y) ≤ y * (x / y) := Nat.mul_le_mul_right _ (by omega)
    omega
  obtain ⟨Q, hQ⟩ : ∃ Q, Q = x / y := ⟨_, rfl⟩
  obtain ⟨R, hR⟩ : ∃ R, R = x % y := ⟨_, rfl⟩
  rw [← hQ] at hq hQl hQr HE2
  rw [← hR] at hr hQr HE2
  clear hQ hR
  have yQ := i64_nn Q (by omega)
  by_cases h : 0 < R
  · have t1 : decide ((0 : Int) < (R : Int)) = true := by simp; omega
    have hE : E = Q + 1 := by rw [HE2.out, if_pos h]
    subst hE
    have y2 : IntKind.i64.wrap ((Q : Int) + 1) = ((Q + 1 : Nat) : Int) := by have := hQr h; rw [IntKind.wrap_i64]; omega
    clear hQr
    go_enter Try.func14, Try.ntmps14
    go_wp2_with fail
    go_ret
    exact ⟨rfl, rfl⟩
  · have t1 : decide ((0 : Int) < (R : Int)) = false := by simp; omega
    have hE : E = Q := by rw [HE2.out, if_neg h]; rfl
    subst hE
    clear hQr
    go_enter Try.func14, Try.ntmps14
    go_wp2_with fail
    go_ret
    exact ⟨rfl, rfl⟩
end Go.Proofs.Ytiacdjnaefnhpaa
