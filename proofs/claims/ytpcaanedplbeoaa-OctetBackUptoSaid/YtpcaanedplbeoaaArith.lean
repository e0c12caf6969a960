/- Run equations of small operations on numbers, as the regions' obligations want them. -/
import Derived.Test.YtpcaanedplbeoaaKnown
namespace Go.Proofs.Ytpcaanedplbeoaa
open Go.RowKit
set_option linter.unusedVariables false
set_option linter.unusedSimpArgs false
theorem w_i64 (z : Int) (h0 : -9223372036854775808 ≤ z) (h1 : z ≤ 9223372036854775807) : IntKind.i64.wrap z = z := by rw [IntKind.wrap_i64]; omega
theorem w_u64 (z : Int) (h0 : 0 ≤ z) (h1 : z < 18446744073709551616) : IntKind.u64.wrap z = z := by rw [IntKind.wrap_u64]; omega
theorem pow2_256 (k : Nat) : (2 : Nat) ^ (8 * k) = 256 ^ k := by rw [Nat.pow_mul]
theorem pow256_lt {k : Nat} (h : k < 8) : 0 < 256 ^ k ∧ 256 ^ k ≤ 72057594037927936 := by
  have hp : 256 ^ k ≤ 256 ^ 7 := Nat.pow_le_pow_right (by omega) (by omega)
  have h7 : (256 : Nat) ^ 7 = 72057594037927936 := by decide
  exact ⟨Nat.pow_pos (by omega), by omega⟩
theorem add_ii (a b : Nat) (p q : Operand) (h : a + b ≤ 4611686018427387904) (w : World) : (do eqGuard .add 3 p q (.int .i64 (a : Nat)) (.int .i64 (b : Nat)); binOp .add 3 (.int .i64 (a : Nat)) (.int .i64 (b : Nat)) : Sem Value).run Try.prog w = .ok (.int .i64 (a + b : Nat)) w := by
  simp [eqGuard, go_sem]
  exact w_i64 _ (by omega) (by omega)
theorem eql_8_no (k : Nat) (p q : Operand) (h : k < 8) (w : World) : (do eqGuard .eql 3 p q (.int .i64 (k : Nat)) (.int .i64 8); binOp .eql 3 (.int .i64 (k : Nat)) (.int .i64 8) : Sem Value).run Try.prog w = .ok (.bool false) w := by
  simp [eqGuard, go_sem]
  omega
theorem lss_8 (k : Nat) (p q : Operand) (h : k < 8) (w : World) : (do eqGuard .lss 3 p q (.int .i64 (k : Nat)) (.int .i64 8); binOp .lss 3 (.int .i64 (k : Nat)) (.int .i64 8) : Sem Value).run Try.prog w = .ok (.bool true) w := by
  simp [eqGuard, go_sem]
  omega
theorem mul_8 (k : Nat) (p q : Operand) (h : k < 8) (w : World) : (do eqGuard .mul 3 p q (.int .i64 8) (.int .i64 (k : Nat)); binOp .mul 3 (.int .i64 8) (.int .i64 (k : Nat)) : Sem Value).run Try.prog w = .ok (.int .i64 (8 * k : Nat)) w := by
  simp [eqGuard, go_sem]
  exact w_i64 _ (by omega) (by omega)
theorem conv_iu (k : Nat) (h : k < 64) (w : World) : (convert 3 25 (.int .i64 (k : Nat))).run Try.prog w = .ok (.int .u64 (k : Nat)) w := by
  simp [go_sem]
  exact w_u64 _ (by omega) (by omega)
theorem shl_1 (k : Nat) (p q : Operand) (h : k < 8) (w : World) : (do eqGuard .shl 24 p q (.int .u64 1) (.int .u64 (8 * k : Nat)); binOp .shl 24 (.int .u64 1) (.int .u64 (8 * k : Nat)) : Sem Value).run Try.prog w = .ok (.int .u64 (256 ^ k : Nat)) w := by
  simp [eqGuard, go_sem]
  have e : ((2 : Int) ^ (8 * (k : Int)).toNat) = ((256 ^ k : Nat) : Int) := by
    rw [← pow2_256 k, show (8 * (k : Int)).toNat = 8 * k by omega]
    simp
  have := pow256_lt h
  rw [e, w_u64 _ (by omega) (by omega)]
  simp
theorem sub_u1 (a : Nat) (p q : Operand) (h : 1 ≤ a) (h2 : a < 18446744073709551616) (w : World) : (do eqGuard .sub 24 p q (.int .u64 (a : Nat)) (.int .u64 1); binOp .sub 24 (.int .u64 (a : Nat)) (.int .u64 1) : Sem Value).run Try.prog w = .ok (.int .u64 (a - 1 : Nat)) w := by
  simp [eqGuard, go_sem]
  rw [w_u64 _ (by omega) (by omega)]
  omega
theorem and_low (x k : Nat) (p q : Operand) (h : k < 8) (hx : x < 18446744073709551616) (w : World) : (do eqGuard .and 24 p q (.int .u64 (x : Nat)) (.int .u64 (256 ^ k - 1 : Nat)); binOp .and 24 (.int .u64 (x : Nat)) (.int .u64 (256 ^ k - 1 : Nat)) : Sem Value).run Try.prog w = .ok (.int .u64 (x % 256 ^ k : Nat)) w := by
  have h1 := pow256_lt h
  have h2 : 256 ^ k - 1 < 18446744073709551616 := by omega
  have e := u64_and_nat x (256 ^ k - 1) hx h2
  rw [← pow2_256 k, Nat.and_two_pow_sub_one_eq_mod] at e
  simp only [pow2_256] at e
  have r : (binOp .and 24 (.int .u64 (x : Nat)) (.int .u64 (256 ^ k - 1 : Nat)) : Sem Value).run Try.prog w = .ok (.int .u64 (bits BinOp.and IntKind.u64 (x : Nat) ((256 ^ k - 1 : Nat) : Int))) w := by simp [go_sem]
  rw [e] at r
  simp [eqGuard, r]
theorem rem_0 (a k : Nat) (p q : Operand) (h : a % k = 0) (h1 : 1 ≤ k) (w : World) : (do eqGuard .rem 3 p q (.int .i64 (a : Nat)) (.int .i64 (k : Nat)); binOp .rem 3 (.int .i64 (a : Nat)) (.int .i64 (k : Nat)) : Sem Value).run Try.prog w = .ok (.int .i64 0) w := by
  have hk : ¬ k = 0 := by omega
  have e : ((a : Int).tmod (k : Int)) = 0 := by rw [Int.tmod_eq_emod_of_nonneg (by omega), ← Int.natCast_emod, h]; rfl
  simp [eqGuard, go_sem, hk, e]
theorem lss_ii (a b : Nat) (p q : Operand) (h : a < b) (w : World) : (do eqGuard .lss 3 p q (.int .i64 (a : Nat)) (.int .i64 (b : Nat)); binOp .lss 3 (.int .i64 (a : Nat)) (.int .i64 (b : Nat)) : Sem Value).run Try.prog w = .ok (.bool true) w := by
  simp [eqGuard, go_sem, h]
theorem min_ii (a b : Nat) (cs : Array Bool) (h : a ≤ b) (w : World) : (builtin .min #[3, 3] 3 cs #[.int .i64 (a : Nat), .int .i64 (b : Nat)]).run Try.prog w = .ok (.value (.int .i64 (a : Nat))) w := by
  simp [go_sem]
  omega
theorem cut_h (A : Option Addr) (n c k : Nat) (h : k ≤ n) (h2 : n ≤ c) (w : World) : (Instr.sliceAt 22 (.slice A n c) none (some (.int .i64 (k : Nat))) none).run Try.prog w = .ok (.slice A k c) w := by
  have e : (if c = 0 then A else A.map (·.add 0)) = A := by
    split
    · rfl
    · cases A with
      | none => rfl
      | some a => simp [Addr.add]
  have hs : (Try.prog.elem 22) = 5 := by simp [Program.elem, Try.underlying22]
  have h3 := run_slice_h (P := Try.prog) w 22 A n c (by rw [hs]; exact Try.underlying22) .i64 (k : Nat) (by omega) (by omega)
  rw [hs] at h3
  obtain ⟨i0, hi0, hz0, hz1, hz2⟩ := info_parts u8_info
  rw [run_sliceAt_slice w 22 _ _ _ _ (by rw [hs]; exact Try.underlying22), h3]
  simp [sizeOf, typeInfo, hi0, hz1, sliced, Result.andThen, e]
end Go.Proofs.Ytpcaanedplbeoaa
