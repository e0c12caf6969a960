/- Law 5's helpers: same, known. -/
import Derived.Test.YtnhjcmfekckfgaaRatC
import Derived.Test.YtnhjcmfekckfgaaReg
namespace Go.Proofs.Ytnhjcmfekckfgaa
open Go.RowKit
set_option linter.unusedVariables false
set_option linter.unusedSimpArgs false
set_option maxRecDepth 20000

def I64 (n : Int) : Prop := -9223372036854775808 ≤ n ∧ n ≤ 9223372036854775807
theorem I64.of_wf {n : Int} (h : (Lit.int .i64 n).wf = true) : I64 n := by
  simpa [Lit.wf, IntKind.min, IntKind.max, IntKind.signed, IntKind.bits, I64] using h
theorem u32_wf {n : Int} (h : (Lit.int .u32 n).wf = true) : ∃ m : Nat, n = (m : Int) ∧ m < 4294967296 := by
  have h1 : 0 ≤ n ∧ n ≤ 4294967295 := by simpa [Lit.wf, IntKind.min, IntKind.max, IntKind.signed, IntKind.bits] using h
  exact ⟨n.toNat, by omega, by omega⟩
theorem i64_bits (op : BinOp) (a b : Int) : I64 (bits op .i64 a b) := by
  have h : ∀ m : Int, I64 (IntKind.i64.wrap m) := by
    intro m
    have := IntKind.wrap_i64 m
    unfold I64
    omega
  exact h _
theorem u32_bits (op : BinOp) (a b : Int) : 0 ≤ bits op .u32 a b ∧ bits op .u32 a b < 4294967296 := by
  have h : ∀ m : Int, 0 ≤ IntKind.u32.wrap m ∧ IntKind.u32.wrap m < 4294967296 := by
    intro m
    have := IntKind.wrap_u32 m
    omega
  exact h _
theorem u64_bits (op : BinOp) (a b : Int) : 0 ≤ bits op .u64 a b ∧ bits op .u64 a b < 18446744073709551616 := by
  have h : ∀ m : Int, 0 ≤ IntKind.u64.wrap m ∧ IntKind.u64.wrap m < 18446744073709551616 := by
    intro m
    have := IntKind.wrap_u64 m
    omega
  exact h _
theorem div_in (n k : Nat) (hn : n < 18446744073709551616) : 0 ≤ (n : Int) / 2 ^ k ∧ (n : Int) / 2 ^ k < 18446744073709551616 := by
  rw [dv_pow]
  have := Nat.div_le_self n (2 ^ k)
  generalize n / 2 ^ k = m at this ⊢
  omega
theorem same5_any (n : Nat) (exp : Int) (man : Nat) (bits : Int) (w : World) (hn : n < 18446744073709551616) (hm : man < 4294967296) (he : I64 exp) (hb : I64 bits) :
    Calls Try.prog 7 #[.int .u64 (n : Int), .int .i64 exp, .int .u32 (man : Int), .int .i64 bits] w (Yes w) := by
  have a1 := fun W => rate_pack n bits W hn
  have a2 := fun W => ref_pack n bits W hn
  have a3 := fun W => rate_open exp man bits W hm
  have a4 := fun W => ref_open exp man bits W hm hb he
  have a5 := fun W => rate_down n bits W hn
  have a6 := fun W => ref_down n bits W hn hb
  have a7 := fun W => rate_bytes n W hn
  have a8 := fun W => ref_rate n W hn
  clear hn hm he hb
  generalize opR exp man bits = O at a3 a4
  generalize dnR n bits = D at a5 a6
  generalize btR n = B at a7 a8
  generalize rkE n bits = E at a1 a2
  generalize rkM n bits = M at a1 a2
  go_enter Try.func7, Try.ntmps7
  go_wp2_with fail
  ((with_reducible refine (a1 _).mono ?_); rintro e w1 ⟨rfl, b1⟩)
  clear a1
  go_wp2_with fail
  ((with_reducible refine (a2 _).mono ?_); rintro e w2 ⟨rfl, b2⟩)
  have b2 := b1.trans (b2.mono b1.size)
  clear a2 b1
  go_wp2_with fail
  ((with_reducible refine (a3 _).mono ?_); rintro e w3 ⟨rfl, b3⟩)
  have b3 := b2.trans (b3.mono b2.size)
  clear a3 b2
  go_wp2_with fail
  ((with_reducible refine (a4 _).mono ?_); rintro e w4 ⟨rfl, b4⟩)
  have b4 := b3.trans (b4.mono b3.size)
  clear a4 b3
  go_wp2_with fail
  ((with_reducible refine (a5 _).mono ?_); rintro e w5 ⟨rfl, b5⟩)
  have b5 := b4.trans (b5.mono b4.size)
  clear a5 b4
  go_wp2_with fail
  ((with_reducible refine (a6 _).mono ?_); rintro e w6 ⟨rfl, b6⟩)
  have b6 := b5.trans (b6.mono b5.size)
  clear a6 b5
  go_wp2_with fail
  ((with_reducible refine (a7 _).mono ?_); rintro e w7 ⟨rfl, b7⟩)
  have b7 := b6.trans (b7.mono b6.size)
  clear a7 b6
  go_wp2_with fail
  ((with_reducible refine (a8 _).mono ?_); rintro e w8 ⟨rfl, b8⟩)
  have b8 := b7.trans (b8.mono b7.size)
  clear a8 b7
  go_wp2_with fail
  go_ret
  exact ⟨rfl, b8⟩
theorem known5_any (w : World) : Calls Try.prog 8 #[] w (Yes w) := by
  have a1 : ∀ W, Calls Try.prog 10 #[.int .u64 262144, .int .i64 18] W (AnsW (.tuple #[.int .i64 1, .int .u32 131072]) W) := fun W => by
    have h := rate_pack 262144 18 W (by omega)
    rw [show rkE 262144 18 = 1 by decide, show rkM 262144 18 = 131072 by decide] at h
    exact h
  have a2 : ∀ W, Calls Try.prog 11 #[.int .i64 64, .int .u32 1, .int .i64 18] W (AnsW (.int .u64 0) W) := fun W => by
    have h := rate_open 64 1 18 W (by omega)
    rw [show opR 64 1 18 = 0 by decide] at h
    exact h
  have a3 : ∀ W, Calls Try.prog 9 #[.int .u64 5, .int .i64 2] W (AnsW (.int .u64 4) W) := fun W => by
    have h := rate_down 5 2 W (by omega)
    rw [show dnR 5 2 = 4 by decide] at h
    exact h
  have a4 : ∀ W, Calls Try.prog 12 #[.int .u64 17] W (AnsW (.int .i64 2) W) := fun W => by
    have h := rate_bytes 17 W (by omega)
    rw [show btR 17 = 2 by decide] at h
    exact h
  have a5 : ∀ W, Calls Try.prog 12 #[.int .u64 9223372036854775808] W (AnsW (.int .i64 1099511627776) W) := fun W => by
    have h := rate_bytes 9223372036854775808 W (by omega)
    rw [show btR 9223372036854775808 = 1099511627776 by decide] at h
    exact h
  have a6 : ∀ W, Calls Try.prog 11 #[.int .i64 63, .int .u32 2, .int .i64 18] W (AnsW (.int .u64 18446744073709551615) W) := fun W => by
    have h := rate_open 63 2 18 W (by omega)
    rw [show opR 63 2 18 = 18446744073709551615 by decide] at h
    exact h
  have a7 : ∀ W, Calls Try.prog 11 #[.int .i64 2, .int .u32 3, .int .i64 2] W (AnsW (.int .u64 12) W) := fun W => by
    have h := rate_open 2 3 2 W (by omega)
    rw [show opR 2 3 2 = 12 by decide] at h
    exact h
  go_enter Try.func8, Try.ntmps8
  go_wp2_with fail
  ((with_reducible refine (a1 _).mono ?_); rintro e w1 ⟨rfl, b1⟩)
  clear a1
  go_wp2_with fail
  ((with_reducible refine (a2 _).mono ?_); rintro e w2 ⟨rfl, b2⟩)
  have b2 := b1.trans (b2.mono b1.size)
  clear a2 b1
  go_wp2_with fail
  ((with_reducible refine (a3 _).mono ?_); rintro e w3 ⟨rfl, b3⟩)
  have b3 := b2.trans (b3.mono b2.size)
  clear a3 b2
  go_wp2_with fail
  ((with_reducible refine (a4 _).mono ?_); rintro e w4 ⟨rfl, b4⟩)
  have b4 := b3.trans (b4.mono b3.size)
  clear a4 b3
  go_wp2_with fail
  ((with_reducible refine (a5 _).mono ?_); rintro e w5 ⟨rfl, b5⟩)
  have b5 := b4.trans (b5.mono b4.size)
  clear a5 b4
  go_wp2_with fail
  ((with_reducible refine (a6 _).mono ?_); rintro e w6 ⟨rfl, b6⟩)
  have b6 := b5.trans (b6.mono b5.size)
  clear a6 b5
  go_wp2_with fail
  ((with_reducible refine (a7 _).mono ?_); rintro e w7 ⟨rfl, b7⟩)
  have b7 := b6.trans (b7.mono b6.size)
  clear a7 b6
  go_wp2_with fail
  go_ret
  exact ⟨rfl, b7⟩
end Go.Proofs.Ytnhjcmfekckfgaa
