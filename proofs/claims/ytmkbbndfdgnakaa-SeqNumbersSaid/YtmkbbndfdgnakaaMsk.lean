/- Masks of unsigned numbers. No program's function, no type of a seat. -/
import Derived.Test.YtmkbbndfdgnakaaBaz
namespace Go.Proofs.Ytmkbbndfdgnakaa
open Go.RowKit
set_option linter.unusedVariables false
set_option linter.unusedSimpArgs false
set_option maxRecDepth 20000

theorem and16_le (n : Int) (m : Nat) (hm : m < 65536) : ∃ k : Nat, bits .and .u16 n (m : Int) = (k : Int) ∧ k ≤ m := by
  have e : (BitVec.ofInt 16 (m : Int)).toNat = m := by
    rw [BitVec.toNat_ofInt]
    omega
  have h : (BitVec.ofInt 16 n &&& BitVec.ofInt 16 (m : Int)).toNat ≤ m := by
    rw [BitVec.toNat_and, e]
    exact Nat.and_le_right
  refine ⟨(BitVec.ofInt 16 n &&& BitVec.ofInt 16 (m : Int)).toNat, ?_, h⟩
  show IntKind.u16.wrap ((BitVec.ofInt 16 n &&& BitVec.ofInt 16 (m : Int)).toNat : Int) = _
  rw [IntKind.wrap_u16]
  omega
theorem and32_le (n : Int) (m : Nat) (hm : m < 4294967296) : ∃ k : Nat, bits .and .u32 n (m : Int) = (k : Int) ∧ k ≤ m := by
  have e : (BitVec.ofInt 32 (m : Int)).toNat = m := by
    rw [BitVec.toNat_ofInt]
    omega
  have h : (BitVec.ofInt 32 n &&& BitVec.ofInt 32 (m : Int)).toNat ≤ m := by
    rw [BitVec.toNat_and, e]
    exact Nat.and_le_right
  refine ⟨(BitVec.ofInt 32 n &&& BitVec.ofInt 32 (m : Int)).toNat, ?_, h⟩
  show IntKind.u32.wrap ((BitVec.ofInt 32 n &&& BitVec.ofInt 32 (m : Int)).toNat : Int) = _
  rw [IntKind.wrap_u32]
  omega
theorem and64_le (n : Int) (m : Nat) (hm : m < 18446744073709551616) : ∃ k : Nat, bits .and .u64 n (m : Int) = (k : Int) ∧ k ≤ m := by
  have e : (BitVec.ofInt 64 (m : Int)).toNat = m := by
    rw [BitVec.toNat_ofInt]
    omega
  have h : (BitVec.ofInt 64 n &&& BitVec.ofInt 64 (m : Int)).toNat ≤ m := by
    rw [BitVec.toNat_and, e]
    exact Nat.and_le_right
  refine ⟨(BitVec.ofInt 64 n &&& BitVec.ofInt 64 (m : Int)).toNat, ?_, h⟩
  show IntKind.u64.wrap ((BitVec.ofInt 64 n &&& BitVec.ofInt 64 (m : Int)).toNat : Int) = _
  rw [IntKind.wrap_u64]
  omega
/-! The same, with the mask as it is written in the code. -/
theorem bits_and_at (n : Int) {m : Nat} {M : Int} (hM : (m : Int) = M) (hm : m < 9223372036854775808) : ∃ k : Nat, bits .and .i64 n M = (k : Int) ∧ k ≤ m := by subst hM; exact bits_and_le n m hm
theorem and16_at (n : Int) {m : Nat} {M : Int} (hM : (m : Int) = M) (hm : m < 65536) : ∃ k : Nat, bits .and .u16 n M = (k : Int) ∧ k ≤ m := by subst hM; exact and16_le n m hm
theorem and32_at (n : Int) {m : Nat} {M : Int} (hM : (m : Int) = M) (hm : m < 4294967296) : ∃ k : Nat, bits .and .u32 n M = (k : Int) ∧ k ≤ m := by subst hM; exact and32_le n m hm
theorem and64_at (n : Int) {m : Nat} {M : Int} (hM : (m : Int) = M) (hm : m < 18446744073709551616) : ∃ k : Nat, bits .and .u64 n M = (k : Int) ∧ k ≤ m := by subst hM; exact and64_le n m hm
theorem wi_at {a b : Int} {c : Nat} (h : a + b = (c : Int)) (hc : c ≤ 9223372036854775807) : IntKind.i64.wrap (a + b) = (c : Int) := by rw [h, IntKind.wrap_i64]; omega
theorem wu_at {a b : Int} {c : Nat} (h : a + b = (c : Int)) (hc : c ≤ 9223372036854775807) : IntKind.u64.wrap (a + b) = (c : Int) := by rw [h, IntKind.wrap_u64]; omega
end Go.Proofs.Ytmkbbndfdgnakaa
