/- RateOpens' walk. -/
import Derived.Test.YtnhjcmfekckfgaaRatD
namespace Go.Proofs.Ytnhjcmfekckfgaa
open Go.RowKit
set_option linter.unusedVariables false
set_option linter.unusedSimpArgs false
set_option maxRecDepth 20000

theorem bits_and31 (n : Int) : ∃ k : Nat, bits .and .i64 n 31 = (k : Int) ∧ k ≤ 31 := by
  have h : (BitVec.ofInt 64 n &&& BitVec.ofInt 64 31).toNat ≤ 31 := by
    rw [BitVec.toNat_and, show (BitVec.ofInt 64 31).toNat = 31 by decide]
    exact Nat.and_le_right
  refine ⟨(BitVec.ofInt 64 n &&& BitVec.ofInt 64 31).toNat, ?_, h⟩
  show IntKind.i64.wrap ((BitVec.ofInt 64 n &&& BitVec.ofInt 64 31).toNat : Int) = _
  rw [IntKind.wrap_i64]
  omega
theorem bits_and18 (n : Int) : ∃ k : Nat, bits .and .u32 n 262143 = (k : Int) ∧ k < 262144 := by
  have h : (BitVec.ofInt 32 n &&& BitVec.ofInt 32 262143).toNat ≤ 262143 := by
    rw [BitVec.toNat_and, show (BitVec.ofInt 32 262143).toNat = 262143 by decide]
    exact Nat.and_le_right
  refine ⟨(BitVec.ofInt 32 n &&& BitVec.ofInt 32 262143).toNat, ?_, by omega⟩
  show IntKind.u32.wrap ((BitVec.ofInt 32 n &&& BitVec.ofInt 32 262143).toNat : Int) = _
  rw [IntKind.wrap_u32]
  omega
theorem opR_small {e m b : Nat} (he : e ≤ 32) (hm : m < 262144) (hb : 1 ≤ b ∧ b ≤ 24) : opR (e : Int) m (b : Int) = if m < 2 ^ b then m * 2 ^ e else 0 := by
  unfold opR
  simp only [Int.toNat_natCast]
  have h1 : 2 ^ e ≤ 2 ^ 32 := Nat.pow_le_pow_right (by omega) he
  have h2 : m * 2 ^ e ≤ 262143 * 2 ^ 32 := Nat.mul_le_mul (by omega) h1
  by_cases h : m < 2 ^ b
  · rw [if_pos ⟨by omega, by omega, h⟩, if_pos h]
    exact op_fits (by omega)
  · rw [if_neg (fun x => h x.2.2), if_neg h]
set_option maxHeartbeats 1000000 in
theorem rateOpens_walk (exp man : Int) (w : World) (he : I64 exp) (hm : (Lit.int .u32 man).wf = true) :
    Calls Try.prog 6 #[.int .i64 exp, .int .u32 man] w (Yes w) := by
  clear he hm
  obtain ⟨e, he, e1⟩ := bits_and31 exp
  obtain ⟨m, hm, m1⟩ := bits_and18 man
  have hw : wrap64 (1 + (e : Int)) = (e : Int) + 1 := by rw [w64_id (by unfold I64; omega)]; omega
  have o1 := opR_small (e := e + 1) (m := m) (b := 18) (by omega) m1 (by omega)
  have o2 := opR_small (e := e) (m := m) (b := 18) (by omega) m1 (by omega)
  have o3 := opR_small (e := e + 1) (m := m) (b := 17) (by omega) m1 (by omega)
  rw [if_pos (by omega)] at o1 o2
  have c1 := fun W => rate_open ((e + 1 : Nat) : Int) m ((18 : Nat) : Int) W (by omega)
  have c2 := fun W => rate_open (e : Int) m ((18 : Nat) : Int) W (by omega)
  have c3 := fun W => rate_open ((e + 1 : Nat) : Int) m ((17 : Nat) : Int) W (by omega)
  rw [o1] at c1
  rw [o2] at c2
  rw [o3] at c3
  have h1 : 2 ^ e ≤ 2 ^ 31 := Nat.pow_le_pow_right (by omega) e1
  have hN : m * 2 ^ e ≤ 262143 * 2 ^ 31 := Nat.mul_le_mul (by omega) h1
  have h2 : m * 2 ^ (e + 1) = 2 * (m * 2 ^ e) := by rw [Nat.pow_succ]; simp [Nat.mul_comm, Nat.mul_left_comm]
  have hd : dnR (m * 2 ^ (e + 1)) ((18 : Nat) : Int) = m * 2 ^ (e + 1) := by
    rw [dnR_in (by omega) (by omega)]
    exact dnN_at rfl (by simpa using m1)
  have c4 := fun W => rate_down (m * 2 ^ (e + 1)) ((18 : Nat) : Int) W (by omega)
  rw [hd] at c4
  have c5 := fun W => rate_bytes (m * 2 ^ (e + 1)) W (by omega)
  rw [h2] at c1 c3 c4 c5
  clear o1 o2 o3 h1 h2 hd
  generalize m * 2 ^ e = X at *
  have hX : (X : Int) ≤ 562947805937664 := by omega
  clear hN
  have b1 : btR (2 * X) = min ((2 * X) / 8) 1099511627776 := rfl
  have c1 : ∀ W, Calls Try.prog 11 #[.int .i64 ((e : Int) + 1), .int .u32 (m : Int), .int .i64 18] W (AnsW (.int .u64 (2 * (X : Int))) W) := fun W => by
    have h := c1 W
    simp only [Int.natCast_add, Int.natCast_mul] at h
    exact h
  have c2 : ∀ W, Calls Try.prog 11 #[.int .i64 (e : Int), .int .u32 (m : Int), .int .i64 18] W (AnsW (.int .u64 (X : Int)) W) := c2
  have c4 : ∀ W, Calls Try.prog 9 #[.int .u64 (2 * (X : Int)), .int .i64 18] W (AnsW (.int .u64 (2 * (X : Int))) W) := fun W => by
    have h := c4 W
    simp only [Int.natCast_mul] at h
    exact h
  have c5 : ∀ W, Calls Try.prog 12 #[.int .u64 (2 * (X : Int))] W (AnsW (.int .i64 (btR (2 * X) : Int)) W) := fun W => by
    have h := c5 W
    simp only [Int.natCast_mul] at h
    exact h
  generalize btR (2 * X) = B at b1 c5
  have HE := Lib.hid he
  have HM := Lib.hid hm
  have HW := Lib.hid hw
  have HB := Lib.hid b1
  clear he hm hw b1
  have K : ∀ (L : Nat), (m < 131072 ∧ L = 0 + 2 * X) ∨ (¬ m < 131072 ∧ L = 0) → True := fun _ _ => trivial
  clear K
  by_cases hm : m < 131072
  · rw [if_pos (by simpa using hm)] at c3
    have c3 : ∀ W, Calls Try.prog 11 #[.int .i64 ((e : Int) + 1), .int .u32 (m : Int), .int .i64 17] W (AnsW (.int .u64 (2 * (X : Int))) W) := fun W => by
      have h := c3 W
      simp only [Int.natCast_add, Int.natCast_mul] at h
      exact h
    go_enter Try.func6, Try.ntmps6
    go_wp2_with fail
    rw [HE.out, HM.out, HW.out]
    clear HE HM HW
    ((with_reducible refine (c1 _).mono ?_); rintro e w1 ⟨rfl, b1⟩)
    clear c1
    have hm2 : decide (131072 ≤ (m : Int)) = false := by simp only [decide_eq_false_iff_not]; omega
    clear m1 hm
    go_wp2_with fail
    ((with_reducible refine (c2 _).mono ?_); rintro e w2 ⟨rfl, b2⟩)
    have b2 := b1.trans (b2.mono b1.size)
    clear c2 b1
    go_wp2_with fail
    ((with_reducible refine (c3 _).mono ?_); rintro e w3 ⟨rfl, b3⟩)
    have b3 := b2.trans (b3.mono b2.size)
    clear c3 b2
    go_wp2_with fail
    ((with_reducible refine (c5 _).mono ?_); rintro e w4 ⟨rfl, b4⟩)
    have b4 := b3.trans (b4.mono b3.size)
    clear c5 b3
    go_wp2_with fail
    all_goals try (exfalso; have := HB.out; omega)
    all_goals
      ((with_reducible refine (c4 _).mono ?_); rintro e w5 ⟨rfl, b5⟩)
      have b5 := b4.trans (b5.mono b4.size)
      clear c4 b4
      go_wp2_with fail
      ((with_reducible refine (known5_any _).mono ?_); rintro e w6 ⟨rfl, b6⟩)
      have b6 := b5.trans (b6.mono b5.size)
      clear b5
      go_wp2_with fail
      go_ret
      exact ⟨rfl, b6⟩
  · rw [if_neg (by simpa using hm)] at c3
    have c3 : ∀ W, Calls Try.prog 11 #[.int .i64 ((e : Int) + 1), .int .u32 (m : Int), .int .i64 17] W (AnsW (.int .u64 0) W) := fun W => by
      have h := c3 W
      simp only [Int.natCast_add, Int.natCast_mul] at h
      exact h
    go_enter Try.func6, Try.ntmps6
    go_wp2_with fail
    rw [HE.out, HM.out, HW.out]
    clear HE HM HW
    ((with_reducible refine (c1 _).mono ?_); rintro e w1 ⟨rfl, b1⟩)
    clear c1
    have hm2 : decide (131072 ≤ (m : Int)) = true := by simp only [decide_eq_true_eq]; omega
    clear m1 hm
    go_wp2_with fail
    ((with_reducible refine (c2 _).mono ?_); rintro e w2 ⟨rfl, b2⟩)
    have b2 := b1.trans (b2.mono b1.size)
    clear c2 b1
    go_wp2_with fail
    ((with_reducible refine (c3 _).mono ?_); rintro e w3 ⟨rfl, b3⟩)
    have b3 := b2.trans (b3.mono b2.size)
    clear c3 b2
    go_wp2_with fail
    ((with_reducible refine (c5 _).mono ?_); rintro e w4 ⟨rfl, b4⟩)
    have b4 := b3.trans (b4.mono b3.size)
    clear c5 b3
    go_wp2_with fail
    all_goals try (exfalso; have := HB.out; omega)
    all_goals
      ((with_reducible refine (c4 _).mono ?_); rintro e w5 ⟨rfl, b5⟩)
      have b5 := b4.trans (b5.mono b4.size)
      clear c4 b4
      go_wp2_with fail
      ((with_reducible refine (known5_any _).mono ?_); rintro e w6 ⟨rfl, b6⟩)
      have b6 := b5.trans (b6.mono b5.size)
      clear b5
      go_wp2_with fail
      go_ret
      exact ⟨rfl, b6⟩
end Go.Proofs.Ytnhjcmfekckfgaa
