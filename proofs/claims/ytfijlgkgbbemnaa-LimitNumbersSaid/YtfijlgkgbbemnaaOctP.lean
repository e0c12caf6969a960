/- Plain mathematics of layer 1: numbers as bytes. No Go, no program. -/
import Derived.Test.YtfijlgkgbbemnaaMem
namespace Go.Proofs.Ytfijlgkgbbemnaa
set_option linter.unusedVariables false
set_option linter.unusedSimpArgs false
set_option maxRecDepth 20000

/-- The lowest k bytes of n, the highest first. -/
def be (n : Nat) : Nat → List UInt8
  | 0 => []
  | k + 1 => be (n / 256) k ++ [UInt8.ofNat n]
theorem be_len (k : Nat) : ∀ n, (be n k).length = k := by
  induction k with
  | zero => intro n; rfl
  | succ k ih => intro n; simp [be, ih]
theorem be_head (k : Nat) : ∀ n, be n (k + 1) = UInt8.ofNat (n / 256 ^ k) :: be n k := by
  induction k with
  | zero => intro n; simp [be]
  | succ k ih =>
    intro n
    rw [be, ih (n / 256)]
    rw [be]
    simp [Nat.div_div_eq_div_mul, Nat.pow_succ, Nat.mul_comm]
/-- The number of a row of bytes. -/
def num (l : List UInt8) : Nat := l.foldl (fun a b => a * 256 + b.toNat) 0
theorem num_snoc (l : List UInt8) (b : UInt8) : num (l ++ [b]) = num l * 256 + b.toNat := by simp [num]
theorem num_foldl (l : List UInt8) : ∀ a, l.foldl (fun a b => a * 256 + b.toNat) a = a * 256 ^ l.length + num l := by
  induction l with
  | nil => intro a; simp [num]
  | cons b l ih =>
    intro a
    rw [List.foldl_cons, ih]
    have : num (b :: l) = b.toNat * 256 ^ l.length + num l := by
      unfold num
      rw [List.foldl_cons, ih]
      simp [num]
    rw [this, List.length_cons, Nat.pow_succ, Nat.add_mul, Nat.mul_assoc, Nat.mul_comm 256]
    omega
theorem num_append (l r : List UInt8) : num (l ++ r) = num l * 256 ^ r.length + num r := by
  unfold num
  rw [List.foldl_append, num_foldl]
  rfl
theorem num_cons (b : UInt8) (l : List UInt8) : num (b :: l) = b.toNat * 256 ^ l.length + num l := by
  have := num_append [b] l
  simpa [num] using this
theorem num_lt (l : List UInt8) : num l < 256 ^ l.length := by
  induction l with
  | nil => simp [num]
  | cons b l ih =>
    rw [num_cons, List.length_cons, Nat.pow_succ]
    have h := b.toNat_lt
    have h2 : b.toNat * 256 ^ l.length ≤ 255 * 256 ^ l.length := Nat.mul_le_mul_right _ (by omega)
    omega
theorem pow256_le {k : Nat} (h : k ≤ 8) : 256 ^ k ≤ 18446744073709551616 := by
  have : 256 ^ k ≤ 256 ^ 8 := Nat.pow_le_pow_right (by omega) h
  simpa using this
theorem num_take_lt (l : List UInt8) (j : Nat) (h : j ≤ 7) : num (l.take j) < 72057594037927936 := by
  have h1 := num_lt (l.take j)
  have h2 : 256 ^ (l.take j).length ≤ 256 ^ 7 := Nat.pow_le_pow_right (by omega) (by simp; omega)
  have h3 : (256 : Nat) ^ 7 = 72057594037927936 := by decide
  omega
theorem num_be (k : Nat) : ∀ n, num (be n k) = n % 256 ^ k := by
  induction k with
  | zero => intro n; simp [be, num, Nat.mod_one]
  | succ k ih =>
    intro n
    rw [be, num_snoc, ih, Nat.pow_succ, Nat.mul_comm (256 ^ k) 256, Nat.mod_mul]
    simp
    omega
/-- One byte more, as the model reckons it. -/
theorem or_byte (a : Nat) (b : UInt8) (ha : a < 72057594037927936) :
    bits BinOp.or IntKind.u64 ((a : Int) * 256) (IntKind.u64.wrap ((b.toNat : Nat) : Int)) = ((a * 256 + b.toNat : Nat) : Int) := by
  have hb := b.toNat_lt
  have e1 : IntKind.u64.wrap ((b.toNat : Nat) : Int) = ((b.toNat : Nat) : Int) := by rw [IntKind.wrap_u64]; omega
  have e2 : ((a : Int) * 256) = ((a * 256 : Nat) : Int) := by omega
  have h1 : a * 256 < 18446744073709551616 := by omega
  have h2 : b.toNat < 18446744073709551616 := by omega
  have h3 := u64_or_nat (a * 256) b.toNat h1 h2
  have h4 := Nat.shiftLeft_add_eq_or_of_lt (i := 8) (b := b.toNat) hb a
  rw [Nat.shiftLeft_eq] at h4
  rw [e1, e2, h3]
  exact congrArg Int.ofNat h4.symm
theorem num_step (L : List UInt8) (q : Nat) (hq : q < L.length) (h7 : q ≤ 7) :
    bits BinOp.or IntKind.u64 ((num (L.take q) : Int) * 256) (IntKind.u64.wrap (((L[q]?.getD 0).toNat : Nat) : Int)) = ((num (L.take (q + 1)) : Nat) : Int) := by
  have h := num_take_lt L q h7
  rw [or_byte (num (L.take q)) (L[q]?.getD 0) h, List.take_succ_eq_append_getElem hq, num_snoc]
  simp [List.getElem?_eq_getElem hq]
/-- How many noughts Pad adds. -/
def padN (n : Nat) (to : Int) : Nat := if 1 ≤ to ∧ to ≤ 64 then (to.toNat - n % to.toNat) % to.toNat else 0
theorem pad_lt (n t q : Nat) (h1 : 1 ≤ t) (h2 : t ≤ 64) (hq : q < padN n t) : (n + q) % t ≠ 0 := by
  have e : padN n t = (t - n % t) % t := by simp [padN]; omega
  rw [e] at hq
  have hm := Nat.mod_lt n (show 0 < t by omega)
  by_cases h0 : n % t = 0
  · rw [h0, Nat.sub_zero, Nat.mod_self] at hq
    omega
  · rw [Nat.mod_eq_of_lt (show t - n % t < t by omega)] at hq
    rw [Nat.add_mod, Nat.mod_eq_of_lt (show q < t by omega), Nat.mod_eq_of_lt (by omega)]
    omega
theorem pad_eq (n t : Nat) (h1 : 1 ≤ t) (h2 : t ≤ 64) : (n + padN n t) % t = 0 := by
  have e : padN n t = (t - n % t) % t := by simp [padN]; omega
  rw [e]
  have hm := Nat.mod_lt n (show 0 < t by omega)
  by_cases h0 : n % t = 0
  · rw [h0, Nat.sub_zero, Nat.mod_self, Nat.add_zero, h0]
  · rw [Nat.mod_eq_of_lt (show t - n % t < t by omega), Nat.add_mod, Nat.mod_eq_of_lt (show t - n % t < t by omega)]
    rw [show n % t + (t - n % t) = t by omega, Nat.mod_self]
theorem padN_lt (n : Nat) (t : Int) : padN n t < 64 := by
  unfold padN
  split
  · rename_i h
    have := Nat.mod_lt (t.toNat - n % t.toNat) (show 0 < t.toNat by omega)
    omega
  · omega
/-- Rows of one length go as their numbers go. -/
theorem less_num : ∀ (x y : List UInt8), x.length = y.length → Op.bytesLess x y = decide (num x < num y)
  | [], [], _ => by simp [Op.bytesLess, num]
  | [], _ :: _, h => by simp at h
  | _ :: _, [], h => by simp at h
  | a :: x, b :: y, h => by
    have hl : x.length = y.length := by simpa using h
    have ih := less_num x y hl
    have h1 := num_lt x
    have h2 := num_lt y
    rw [hl] at h1
    unfold Op.bytesLess
    rw [ih, num_cons, num_cons, hl]
    rcases Nat.lt_trichotomy a.toNat b.toNat with hab | hab | hab
    · have : a < b := UInt8.lt_iff_toNat_lt.2 hab
      have h3 : (a.toNat + 1) * 256 ^ y.length ≤ b.toNat * 256 ^ y.length := Nat.mul_le_mul_right _ hab
      rw [Nat.add_mul] at h3
      have e : a.toNat * 256 ^ y.length + num x < b.toNat * 256 ^ y.length + num y := by omega
      simp [this, e]
    · have hab' : a = b := UInt8.toNat_inj.1 hab
      subst hab'
      simp
    · have hn : ¬ a < b := fun hh => by have := UInt8.lt_iff_toNat_lt.1 hh; omega
      have hne : ¬ a = b := fun hh => by subst hh; omega
      have h3 : (b.toNat + 1) * 256 ^ y.length ≤ a.toNat * 256 ^ y.length := Nat.mul_le_mul_right _ hab
      rw [Nat.add_mul] at h3
      have e : ¬ a.toNat * 256 ^ y.length + num x < b.toNat * 256 ^ y.length + num y := by omega
      rw [decide_eq_false e]
      simp [hn, hne]
theorem be_less (a b : Nat) (ha : a < 18446744073709551616) (hb : b < 18446744073709551616) : Op.bytesLess (be a 8) (be b 8) = decide (a < b) := by
  rw [less_num _ _ (by rw [be_len, be_len]), num_be, num_be]
  have e : (256 : Nat) ^ 8 = 18446744073709551616 := by decide
  rw [e, Nat.mod_eq_of_lt ha, Nat.mod_eq_of_lt hb]
end Go.Proofs.Ytfijlgkgbbemnaa
