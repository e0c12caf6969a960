/- RateDown's walk. -/
import Derived.Test.YtnhjcmfekckfgaaRatS
namespace Go.Proofs.Ytnhjcmfekckfgaa
open Go.RowKit
set_option linter.unusedVariables false
set_option linter.unusedSimpArgs false
set_option maxRecDepth 20000

theorem w64_id {n : Int} (h : I64 n) : wrap64 n = n := by
  unfold I64 at h
  unfold wrap64
  omega
theorem down_k (bits : Int) : ∃ k : Nat, wrap64 (1 + (wrap64 (bits.tmod 24 + 24)).tmod 24) = (k : Int) ∧ 1 ≤ k ∧ k ≤ 24 := by
  have h1 := Int.tmod_lt_of_pos bits (show (0 : Int) < 24 by omega)
  have h2 := Int.lt_tmod_of_pos bits (show (0 : Int) < 24 by omega)
  generalize bits.tmod 24 = x at h1 h2 ⊢
  rw [w64_id (n := x + 24) (by unfold I64; omega), Int.tmod_eq_emod_of_nonneg (by omega), w64_id (by unfold I64; omega)]
  exact ⟨(1 + (x + 24) % 24).toNat, by omega, by omega, by omega⟩
set_option maxHeartbeats 1000000 in
theorem rateDown_walk (a b : Nat) (bits : Int) (w : World) (ha : a < 18446744073709551616) (hb : b < 18446744073709551616) (hbi : I64 bits) :
    Calls Try.prog 5 #[.int .u64 (a : Int), .int .u64 (b : Int), .int .i64 bits] w (Yes w) := by
  obtain ⟨k, hk, k1, k2⟩ := down_k bits
  have HK := Lib.hid hk
  clear hk
  go_enter Try.func5, Try.ntmps5
  go_wp2_with fail
  rw [HK.out]
  clear HK hbi
  have e1 := rkE_small ha (k : Int)
  have eE : rkE a (k : Int) = pkE a k := if_pos (by omega)
  have eM : rkM a (k : Int) = pkM a k := if_pos (by omega)
  have eX : dnR a (k : Int) = dnN a k := dnR_in ha (by omega)
  have eY : dnR b (k : Int) = dnN b k := dnR_in hb (by omega)
  have c1 := fun W => rate_down a k W ha
  have c2 := fun W => rate_down b k W hb
  have c3 := fun W => rate_pack a k W ha
  rw [eX] at c1
  rw [eY] at c2
  rw [eE, eM] at c3
  have hx1 := dnN_le a k
  have hy1 := dnN_le b k
  have c4 := fun W => rate_down (dnN a k) k W (by omega)
  rw [dnR_in (by omega) (by omega), show ((k : Int)).toNat = k by omega, dnN_again] at c4
  have c5 := fun W => rate_open (pkE a k) (pkM a k) k W (by have := rkM_small a k; rw [eM] at this; omega)
  rw [← eE, ← eM, show opR (rkE a k : Int) (rkM a k) k = dnR a k from rfl, eE, eM, eX] at c5
  have hx2 : a ≠ 0 → a / 2 < dnN a k := fun h => dnN_half k1 h
  have hxy : ¬ b < a → dnN a k ≤ dnN b k := fun h => dnN_mono k1 (by omega)
  have hxe := dnN_rest a k
  have hxz := pkE_zero a k
  rw [eE] at e1
  have pE := pw64 (pkE a k) e1
  have pK := pw64 k (by omega)
  have hK64 : 2 ^ k ≤ 2 ^ 24 := Nat.pow_le_pow_right (by omega) k2
  clear eE eM eX eY
  generalize dnN a k = X at *
  generalize dnN b k = Y at *
  generalize pkE a k = E at *
  generalize pkM a k = M at *
  have HXE := Lib.hid hxe
  have HX2 := Lib.hid hx2
  have HXY := Lib.hid hxy
  have HXZ := Lib.hid hxz
  have HPE := Lib.hid pE
  have HPK := Lib.hid pK
  clear hxe hx2 hxy hxz hK64 pE pK
  ((with_reducible refine (c1 _).mono ?_); rintro e w1 ⟨rfl, b1⟩)
  clear c1
  go_wp2_with fail
  ((with_reducible refine (c2 _).mono ?_); rintro e w2 ⟨rfl, b2⟩)
  have b2 := b1.trans (b2.mono b1.size)
  clear c2 b1
  go_wp2_with fail
  ((with_reducible refine (c3 _).mono ?_); rintro e w3 ⟨rfl, b3⟩)
  have b3 := b2.trans (b3.mono b2.size)
  clear c3 b2
  go_wp2_with fail
  rotate_left 2
  · exfalso
    have := HX2.out (by assumption)
    omega
  all_goals
    ((with_reducible refine (c4 _).mono ?_); rintro e w4 ⟨rfl, b4⟩)
    have b4 := b3.trans (b4.mono b3.size)
    clear c4 b3
    go_wp2_with fail
    try (exfalso; have h1 := HXY.out; omega)
    all_goals try (exfalso; have h1 := HXY.out (by omega); omega)
    all_goals
      ((with_reducible refine (c5 _).mono ?_); rintro e w5 ⟨rfl, b5⟩)
      have b5 := b4.trans (b5.mono b4.size)
      clear c5 b4
      go_wp2_with fail
      rotate_left
      · exfalso
        have p := HPK.out
        have z := HXZ.out
        refine absurd ?_ (by assumption)
        rw [p, Bool.eq_iff_iff]
        simp only [decide_eq_true_eq, beq_iff_eq]
        omega
      · exfalso
        have p := HPE.out
        have z := HXE.out
        generalize IntKind.u64.wrap (2 ^ E) = Q at *
        generalize 2 ^ E = R at *
        omega
      ((with_reducible refine (known5_any _).mono ?_); rintro e w6 ⟨rfl, b6⟩)
      have b6 := b5.trans (b6.mono b5.size)
      clear b5
      go_wp2_with fail
      go_ret
      first | exact ⟨rfl, b6⟩ | (refine ⟨congrArg Ending.returned (congrArg Value.bool (?_ : (decide _ || decide _) = true)), b6⟩; simp only [Bool.or_eq_true, decide_eq_true_eq]; first | assumption | omega)
end Go.Proofs.Ytnhjcmfekckfgaa
