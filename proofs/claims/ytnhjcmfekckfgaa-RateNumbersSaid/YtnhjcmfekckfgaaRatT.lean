/- RateTells' walk. -/
import Derived.Test.YtnhjcmfekckfgaaRatS
namespace Go.Proofs.Ytnhjcmfekckfgaa
open Go.RowKit
set_option linter.unusedVariables false
set_option linter.unusedSimpArgs false
set_option maxRecDepth 20000

theorem same5_i (n exp man bits : Int) (w : World) (hn : 0 ≤ n ∧ n < 18446744073709551616) (hm : 0 ≤ man ∧ man < 4294967296) (he : I64 exp) (hb : I64 bits) :
    Calls Try.prog 7 #[.int .u64 n, .int .i64 exp, .int .u32 man, .int .i64 bits] w (Yes w) := by
  obtain ⟨a, rfl⟩ : ∃ a : Nat, n = (a : Int) := ⟨n.toNat, by omega⟩
  obtain ⟨b, rfl⟩ : ∃ b : Nat, man = (b : Int) := ⟨man.toNat, by omega⟩
  exact same5_any a exp b bits w (by omega) (by omega) he hb
theorem rateTells_walk (n : Nat) (exp man bits : Int) (w : World) (hn : n < 18446744073709551616) (he : I64 exp) (hm : (Lit.int .u32 man).wf = true) (hb : I64 bits) :
    Calls Try.prog 4 #[.int .u64 (n : Int), .int .i64 exp, .int .u32 man, .int .i64 bits] w (Yes w) := by
  obtain ⟨man, rfl, hm'⟩ := u32_wf hm
  clear hm
  go_enter Try.func4, Try.ntmps4
  go_wp2_with fail
  ((with_reducible refine (same5_any _ _ _ _ _ hn hm' he hb).mono ?_); rintro e w1 ⟨rfl, b1⟩)
  go_wp2_with fail
  ((with_reducible refine (same5_i _ _ _ _ _ (div_in _ _ hn) (u32_bits _ _ _) (i64_bits _ _ _) (by unfold I64; omega)).mono ?_); rintro e w2 ⟨rfl, b2⟩)
  have b2 := b1.trans (b2.mono b1.size)
  clear b1
  go_wp2_with fail
  ((with_reducible refine (same5_i _ _ _ _ _ (by omega) (u32_bits _ _ _) (i64_bits _ _ _) (by unfold I64; omega)).mono ?_); rintro e w3 ⟨rfl, b3⟩)
  have b3 := b2.trans (b3.mono b2.size)
  clear b2
  go_wp2_with fail
  ((with_reducible refine (same5_i _ _ _ _ _ (u64_bits _ _ _) (by omega) he (i64_bits _ _ _)).mono ?_); rintro e w4 ⟨rfl, b4⟩)
  have b4 := b3.trans (b4.mono b3.size)
  clear b3
  go_wp2_with fail
  ((with_reducible refine (known5_any _).mono ?_); rintro e w5 ⟨rfl, b5⟩)
  have b5 := b4.trans (b5.mono b4.size)
  clear b4
  go_wp2_with fail
  go_ret
  exact ⟨rfl, b5⟩
end Go.Proofs.Ytnhjcmfekckfgaa
