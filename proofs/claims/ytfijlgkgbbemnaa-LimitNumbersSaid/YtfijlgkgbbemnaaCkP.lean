/- Sums that stay, in plain words: what Add, Mul, Over, Less are of any numbers; a product in two halves. No function of the program. -/
import Derived.Test.YtfijlgkgbbemnaaBaz
namespace Go.Proofs.Ytfijlgkgbbemnaa
open Go.RowKit
set_option linter.unusedVariables false
set_option linter.unusedSimpArgs false
set_option maxRecDepth 20000

/-- What counts of a number. -/
def po (n : Int) : Nat := n.toNat
def topN : Nat := 9223372036854775807
def addC (a b : Int) : Nat := min (po a + po b) 9223372036854775807
def mulC (a b : Int) : Nat := min (po a * po b) 9223372036854775807
def overC (n d : Int) : Nat := if po d = 0 then 0 else (po n + po d - 1) / po d
def lessC (a b c d : Int) : Bool := decide (po a * po b < po c * po d)
theorem po_max (n : Int) : (if n < 0 then 0 else n) = (po n : Int) := by unfold po; split <;> omega
theorem po_lt {n : Int} (h : I64 n) : po n ≤ 9223372036854775807 := by unfold I64 at h; unfold po; omega
theorem addC_le (a b : Int) : addC a b ≤ 9223372036854775807 := by unfold addC; omega
theorem mulC_le (a b : Int) : mulC a b ≤ 9223372036854775807 := by unfold mulC; omega
theorem addC_comm (a b : Int) : addC a b = addC b a := by unfold addC; omega
theorem mulC_comm (a b : Int) : mulC a b = mulC b a := by unfold mulC; rw [Nat.mul_comm]
/-- By a quotient: where a product runs over. -/
theorem mul_over {a b m : Nat} (ha : 0 < a) : m / a < b ↔ m < a * b := by
  rw [Nat.div_lt_iff_lt_mul ha, Nat.mul_comm]
theorem overC_up (n d : Nat) (hd : 0 < d) : (n + d - 1) / d = n / d + if 0 < n % d then 1 else 0 := by
  have h1 := Nat.div_add_mod n d
  have h2 := Nat.mod_lt n hd
  split
  · rename_i h
    rw [show n + d - 1 = (n % d - 1) + d * (n / d + 1) by rw [Nat.mul_add]; omega, Nat.add_mul_div_left _ _ hd, Nat.div_eq_of_lt (by omega)]
    omega
  · rename_i h
    have h0 : n % d = 0 := by omega
    rw [show n + d - 1 = (d - 1) + d * (n / d) by omega, Nat.add_mul_div_left _ _ hd, Nat.div_eq_of_lt (by omega)]
    omega
theorem overC_nat (n d : Nat) (hd : 0 < d) : overC n d = n / d + if 0 < n % d then 1 else 0 := by
  unfold overC po
  rw [Int.toNat_natCast, Int.toNat_natCast, if_neg (by omega), overC_up n d hd]
/-- The high half of a product of two numbers below 2^64, out of four products of their halves. -/
theorem high_half (a b : Nat) :
    (a / 4294967296) * (b / 4294967296) + (a / 4294967296 * (b % 4294967296)) / 4294967296 + (a % 4294967296 * (b / 4294967296)) / 4294967296 + ((a % 4294967296 * (b % 4294967296)) / 4294967296 + (a / 4294967296 * (b % 4294967296)) % 4294967296 + (a % 4294967296 * (b / 4294967296)) % 4294967296) / 4294967296 = a * b / 18446744073709551616 := by
  have ea : a = 4294967296 * (a / 4294967296) + a % 4294967296 := (Nat.div_add_mod a 4294967296).symm
  have eb : b = 4294967296 * (b / 4294967296) + b % 4294967296 := (Nat.div_add_mod b 4294967296).symm
  generalize a / 4294967296 = ah at ea ⊢
  generalize a % 4294967296 = al at ea ⊢
  generalize b / 4294967296 = bh at eb ⊢
  generalize b % 4294967296 = bl at eb ⊢
  have e : a * b = 18446744073709551616 * (ah * bh) + 4294967296 * (ah * bl) + 4294967296 * (al * bh) + al * bl := by
    rw [ea, eb, Nat.add_mul, Nat.mul_add, Nat.mul_add]
    rw [show 4294967296 * ah * (4294967296 * bh) = 18446744073709551616 * (ah * bh) by rw [Nat.mul_mul_mul_comm],
      Nat.mul_assoc 4294967296 ah bl, Nat.mul_left_comm al 4294967296 bh]
    omega
  rw [e]
  generalize ah * bh = S
  generalize ah * bl = P
  generalize al * bh = Q
  generalize al * bl = R
  omega
/-- Two numbers are compared as their halves are. -/
theorem halves_lt (x y : Nat) : (x / 18446744073709551616 < y / 18446744073709551616 ∨ (x / 18446744073709551616 = y / 18446744073709551616 ∧ x % 18446744073709551616 < y % 18446744073709551616)) ↔ x < y := by omega
end Go.Proofs.Ytfijlgkgbbemnaa
