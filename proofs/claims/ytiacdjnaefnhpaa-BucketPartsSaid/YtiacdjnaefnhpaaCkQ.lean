/- Sums that stay, in plain words: what stage 9's laws without the document's answer say. No function of the program. -/
import Derived.Test.YtiacdjnaefnhpaaCkP
namespace Go.Proofs.Ytiacdjnaefnhpaa
open Go.RowKit
set_option linter.unusedVariables false
set_option linter.unusedSimpArgs false
set_option maxRecDepth 20000

theorem po_nat (n : Nat) : po (n : Int) = n := by simp [po]
theorem addC_ge (a b : Int) (ha : I64 a) (hb : I64 b) : a ≤ (addC a b : Nat) ∧ b ≤ (addC a b : Nat) ∧ (0 : Int) ≤ (addC a b : Nat) := by
  unfold I64 at ha hb
  unfold addC po
  omega
/-- A quotient times what it was divided by. -/
theorem over_mul (x y : Nat) (hy : 0 < y) : x ≤ overC x y * y ∧ overC x y * y < x + y := by
  rw [overC_nat x y hy]
  have h1 := Nat.div_add_mod x y
  have h2 := Nat.mod_lt x hy
  rw [Nat.mul_comm] at h1
  split
  · rw [Nat.add_mul, Nat.one_mul]
    generalize x / y * y = Q at *
    omega
  · rw [Nat.add_zero]
    generalize x / y * y = Q at *
    omega
theorem over_le (x y : Nat) (hy : 0 < y) : overC x y ≤ x := by
  rw [overC_nat x y hy]
  have h1 := Nat.div_add_mod x y
  have h2 := Nat.mod_lt x hy
  have h3 : 1 * (x / y) ≤ y * (x / y) := Nat.mul_le_mul_right _ hy
  split <;> omega
theorem less_anti (a b c d : Int) : (lessC a b c d && lessC c d a b) = false := by
  unfold lessC
  generalize po a * po b = X
  generalize po c * po d = Y
  by_cases h : X < Y
  · rw [decide_eq_false (show ¬ Y < X by omega), Bool.and_false]
  · rw [decide_eq_false h, Bool.false_and]
theorem less_comm (a b : Int) : lessC a b b a = false := by
  unfold lessC
  rw [Nat.mul_comm (po b) (po a)]
  exact decide_eq_false (Nat.lt_irrefl _)
theorem less_more (x y : Nat) : lessC x y x (y + 1 : Nat) = decide (0 < x) := by
  unfold lessC
  rw [po_nat, po_nat, po_nat, Nat.mul_add, Nat.mul_one]
  congr 1
  apply propext
  generalize x * y = Q
  omega
theorem less_nat (w x y z : Nat) : lessC w x y z = decide (w * x < y * z) := by unfold lessC; rw [po_nat, po_nat, po_nat, po_nat]
/-- By a factor on both sides. -/
theorem less_scale (k w x y z : Nat) (hk : 0 < k) : lessC (w * k : Nat) x (y * k : Nat) z = decide (w * x < y * z) := by
  rw [less_nat]
  congr 1
  apply propext
  rw [show w * k * x = k * (w * x) by rw [Nat.mul_comm w k, Nat.mul_assoc], show y * k * z = k * (y * z) by rw [Nat.mul_comm y k, Nat.mul_assoc]]
  exact Nat.mul_lt_mul_left hk
theorem less_scale2 (k w x y z : Nat) (hk : 0 < k) : lessC (w * k : Nat) (x * k : Nat) (y * k : Nat) (z * k : Nat) = decide (w * x < y * z) := by
  rw [less_nat]
  congr 1
  apply propext
  rw [Nat.mul_mul_mul_comm w k x k, Nat.mul_mul_mul_comm y k z k, Nat.mul_comm (w * x), Nat.mul_comm (y * z)]
  exact Nat.mul_lt_mul_left (Nat.mul_pos hk hk)
theorem mulC_small {w x : Nat} (h : w * x ≤ 9223372036854775807) : mulC w x = w * x := by unfold mulC; rw [po_nat, po_nat]; omega
theorem addC_small {w x : Nat} (h : w + x ≤ 9223372036854775807) : addC w x = w + x := by unfold addC; rw [po_nat, po_nat]; omega
end Go.Proofs.Ytiacdjnaefnhpaa
