/- Contracts: limelight/rate's sized, fits, Pack, Open, Down, Bytes. -/
import Derived.Test.YtnhjcmfekckfgaaRatR
import Derived.Lib.Hide
namespace Go.Proofs.Ytnhjcmfekckfgaa
open Go.RowKit
set_option linter.unusedVariables false
set_option linter.unusedSimpArgs false
set_option maxRecDepth 20000

theorem sized_yes (bits : Int) (w : World) (h : 1 ≤ bits ∧ bits ≤ 24) : Calls Try.prog 17 #[.int .i64 bits] w (AnsW (.bool true) w) := by
  obtain ⟨h1, h2⟩ := h
  go_enter Try.func17, Try.ntmps17
  go_wp2_with fail
  go_ret
  exact ⟨rfl, Below.refl _ _⟩
theorem sized_no (bits : Int) (w : World) (h : ¬ (1 ≤ bits ∧ bits ≤ 24)) : Calls Try.prog 17 #[.int .i64 bits] w (AnsW (.bool false) w) := by
  by_cases h1 : 1 ≤ bits
  · have h2 : decide (bits ≤ 24) = false := by simp only [decide_eq_false_iff_not]; omega
    clear h
    go_enter Try.func17, Try.ntmps17
    go_wp2_with fail
    go_ret
    exact ⟨rfl, Below.refl _ _⟩
  · have h2 : bits < 1 := by omega
    clear h
    go_enter Try.func17, Try.ntmps17
    go_wp2_with fail
    go_ret
    exact ⟨rfl, Below.refl _ _⟩
theorem fits_any (n b : Nat) (w : World) (hn : n < 18446744073709551616) (hb : b ≤ 24) : Calls Try.prog 18 #[.int .u64 (n : Int), .int .i64 (b : Int)] w (AnsW (.bool (decide (n < 2 ^ b))) w) := by
  have mn : min b 64 = b := by omega
  have e : decide (n < 2 ^ b) = ((n : Int) / 2 ^ b == 0) := by
    have h1 := Nat.div_eq_zero_iff (a := n) (b := 2 ^ b)
    have h2 := Nat.two_pow_pos b
    rw [dv_pow, Bool.eq_iff_iff]
    simp only [decide_eq_true_eq, beq_iff_eq]
    omega
  have he := Lib.hid e
  clear e
  go_enter Try.func18, Try.ntmps18
  go_wp2_with fail
  go_ret
  exact ⟨by rw [he.out]; rfl, Below.refl _ _⟩
theorem fits_yes (n b : Nat) (w : World) (hn : n < 18446744073709551616) (hb : b ≤ 24) (h : n < 2 ^ b) : Calls Try.prog 18 #[.int .u64 (n : Int), .int .i64 (b : Int)] w (AnsW (.bool true) w) := by
  have := fits_any n b w hn hb
  rwa [decide_eq_true h] at this
theorem fits_no (n b : Nat) (w : World) (hn : n < 18446744073709551616) (hb : b ≤ 24) (h : ¬ n < 2 ^ b) : Calls Try.prog 18 #[.int .u64 (n : Int), .int .i64 (b : Int)] w (AnsW (.bool false) w) := by
  have := fits_any n b w hn hb
  rwa [decide_eq_false h] at this
set_option maxRecDepth 100000 in
theorem rate_pack (n : Nat) (bits : Int) (w : World) (hn : n < 18446744073709551616) :
    Calls Try.prog 10 #[.int .u64 (n : Int), .int .i64 bits] w (AnsW (.tuple #[.int .i64 (rkE n bits : Int), .int .u32 (rkM n bits : Int)]) w) := by
  by_cases h1 : 1 ≤ bits ∧ bits ≤ 24
  · have sz := fun W => sized_yes bits W h1
    obtain ⟨b, rfl⟩ : ∃ b : Nat, bits = (b : Int) := ⟨bits.toNat, by omega⟩
    have hb : 1 ≤ b ∧ b ≤ 24 := by omega
    have r1 : rkE n b = pkE n b := by unfold rkE; rw [if_pos h1]; rfl
    have r2 : rkM n b = pkM n b := by unfold rkM; rw [if_pos h1]; rfl
    rw [r1, r2]
    clear r1 r2 h1
    go_enter Try.func10, Try.ntmps10
    go_wp2_with fail
    ((with_reducible refine (sz _).mono ?_); rintro e w1 ⟨rfl, b1⟩)
    clear sz
    go_wp2_with fail
    go_loopw [0, 6] (fun nv ev wr => ∃ e : Nat, e ≤ pkE n b ∧ nv = .int .u64 ((n / 2 ^ e : Nat) : Int) ∧ ev = .int .i64 (e : Int) ∧ Below w.heap.size w wr) (fun _ ev _ => pkE n b - (intOf ev).toNat)
    case atStart => exact ⟨0, by omega, by simp, rfl, b1⟩
    case round =>
      obtain ⟨e, he, rfl, rfl, b0⟩ := hrel
      have h63 := pkE_le (n := n) (b := b) (by omega) hb.1
      have hle : n / 2 ^ e ≤ n := Nat.div_le_self _ _
      have hdd : n / 2 ^ e / 2 = n / 2 ^ (e + 1) := by rw [Nat.div_div_eq_div_mul, Nat.pow_succ]
      have hp := pk_lt n b e
      have hM := pkM_lt n b
      have hM2 : 2 ^ b ≤ 2 ^ 24 := Nat.pow_le_pow_right (by omega) hb.2
      have hm : e = pkE n b → n / 2 ^ e = pkM n b := by rintro rfl; rfl
      have HM := Lib.hid hm
      have HD := Lib.hid hdd
      clear hm hdd
      generalize n / 2 ^ e = X at hle hp HM HD ⊢
      by_cases hq : e < pkE n b
      · have ft := fun W => fits_no X b W (by omega) hb.2 (by rw [hp]; omega)
        clear hp hM hM2
        go_wp2_with fail
        ((with_reducible refine (ft _).mono ?_); rintro e w2 ⟨rfl, b2⟩)
        have b2 := b0.trans (b2.mono b0.size)
        clear ft b0 b1
        go_wp2_with fail
        go_roundw
        case rel => exact ⟨e + 1, by omega, by rw [← HD.out]; simp, by go_num, b2⟩
        case measure => simp [intOf]; omega
      · obtain rfl : e = pkE n b := by omega
        have ft := fun W => fits_yes X b W (by omega) hb.2 (by rw [hp]; omega)
        obtain rfl := HM.out rfl
        clear hp HM HD
        go_wp2_with fail
        ((with_reducible refine (ft _).mono ?_); rintro e w2 ⟨rfl, b2⟩)
        have b2 := b0.trans (b2.mono b0.size)
        clear ft b0 b1
        go_wp2_with fail
        go_ret2
        exact ⟨rfl, b2⟩
  · have sz := fun W => sized_no bits W h1
    have r1 : rkE n bits = 0 := by unfold rkE; rw [if_neg h1]
    have r2 : rkM n bits = 0 := by unfold rkM; rw [if_neg h1]
    rw [r1, r2]
    clear r1 r2 h1
    go_enter Try.func10, Try.ntmps10
    go_wp2_with fail
    ((with_reducible refine (sz _).mono ?_); rintro e w1 ⟨rfl, b1⟩)
    clear sz
    go_wp2_with fail
    go_ret2
    exact ⟨rfl, b1⟩
theorem rate_bytes (n : Nat) (w : World) (hn : n < 18446744073709551616) : Calls Try.prog 12 #[.int .u64 (n : Int)] w (AnsW (.int .i64 (btR n : Int)) w) := by
  go_enter Try.func12, Try.ntmps12
  go_wp2_with fail
  · have hv : (btR n : Int) = 1099511627776 := by unfold btR; omega
    go_ret
    rw [hv]
    exact ⟨rfl, Below.refl _ _⟩
  · have hv : (btR n : Int) = (n : Int) / 8 := by unfold btR; omega
    go_ret
    rw [hv]
    exact ⟨rfl, Below.refl _ _⟩
set_option maxRecDepth 100000 in
theorem rate_open (exp : Int) (man : Nat) (bits : Int) (w : World) (hm : man < 4294967296) :
    Calls Try.prog 11 #[.int .i64 exp, .int .u32 (man : Int), .int .i64 bits] w (AnsW (.int .u64 (opR exp man bits : Int)) w) := by
  by_cases h1 : 1 ≤ bits ∧ bits ≤ 24
  · have sz := fun W => sized_yes bits W h1
    by_cases h3 : exp < 0
    · rw [opR_no (by omega)]
      clear h1 hm
      go_enter Try.func11, Try.ntmps11
      go_wp2_with fail
      ((with_reducible refine (sz _).mono ?_); rintro e w1 ⟨rfl, b1⟩)
      clear sz
      go_wp2_with fail
      go_ret
      exact ⟨rfl, b1⟩
    by_cases h4 : 63 < exp
    · rw [opR_no (by omega)]
      clear h1 hm
      go_enter Try.func11, Try.ntmps11
      go_wp2_with fail
      ((with_reducible refine (sz _).mono ?_); rintro e w1 ⟨rfl, b1⟩)
      clear sz
      go_wp2_with fail
      go_ret
      exact ⟨rfl, b1⟩
    obtain ⟨b, rfl⟩ : ∃ b : Nat, bits = (b : Int) := ⟨bits.toNat, by omega⟩
    obtain ⟨e, rfl⟩ : ∃ e : Nat, exp = (e : Int) := ⟨exp.toNat, by omega⟩
    have hbb : 1 ≤ b ∧ b ≤ 24 := by omega
    have hee : e ≤ 63 := by omega
    have d1 : decide ((e : Int) < 0) = false := by simp
    have d2 : decide (63 < (e : Int)) = false := by simp; omega
    have mn : min e 64 = e := by omega
    clear h1 h3 h4
    by_cases h5 : man < 2 ^ b
    · have ft := fun W => fits_yes man b W (by omega) hbb.2 h5
      have hin : opR e man b = opN e man := by unfold opR; exact if_pos ⟨by omega, by omega, h5⟩
      rw [hin]
      clear hin
      have hfit : man * 2 ^ e < 2 ^ 64 ↔ man ≤ 18446744073709551615 / 2 ^ e := by
        rw [Nat.le_div_iff_mul_le (Nat.two_pow_pos _)]
        omega
      have sh := sh64 man e
      have dv := dv_pow 18446744073709551615 e
      have SH := Lib.hid sh
      clear sh h5
      by_cases h6 : man * 2 ^ e < 2 ^ 64
      · rw [op_fits h6]
        have d : decide ((18446744073709551615 : Int) / 2 ^ e < (man : Int)) = false := by
          have h7 := hfit.1 h6
          have h8 : (18446744073709551615 : Int) / 2 ^ e = ((18446744073709551615 / 2 ^ e : Nat) : Int) := dv
          rw [h8]
          simp only [decide_eq_false_iff_not]
          omega
        have HM := Lib.hid (Nat.mod_eq_of_lt h6)
        clear hfit dv h6
        go_enter Try.func11, Try.ntmps11
        go_wp2_with fail
        ((with_reducible refine (sz _).mono ?_); rintro e w1 ⟨rfl, b1⟩)
        go_wp2_with fail
        ((with_reducible refine (ft _).mono ?_); rintro e w2 ⟨rfl, b2⟩)
        have b2 := b1.trans (b2.mono b1.size)
        clear sz ft b1
        go_wp2_with fail
        go_ret
        refine ⟨?_, b2⟩
        rw [← HM.out, ← SH.out]
        rfl
      · rw [op_over h6]
        have d : decide ((18446744073709551615 : Int) / 2 ^ e < (man : Int)) = true := by
          have h7 := mt hfit.2 h6
          have h8 : (18446744073709551615 : Int) / 2 ^ e = ((18446744073709551615 / 2 ^ e : Nat) : Int) := dv
          rw [h8]
          simp only [decide_eq_true_eq]
          omega
        clear hfit dv h6 SH
        go_enter Try.func11, Try.ntmps11
        go_wp2_with fail
        ((with_reducible refine (sz _).mono ?_); rintro e w1 ⟨rfl, b1⟩)
        go_wp2_with fail
        ((with_reducible refine (ft _).mono ?_); rintro e w2 ⟨rfl, b2⟩)
        have b2 := b1.trans (b2.mono b1.size)
        clear sz ft b1
        go_wp2_with fail
        go_ret
        exact ⟨rfl, b2⟩
    · have ft := fun W => fits_no man b W (by omega) hbb.2 h5
      rw [opR_no (fun h => h5 h.2.2)]
      clear h5 mn
      go_enter Try.func11, Try.ntmps11
      go_wp2_with fail
      ((with_reducible refine (sz _).mono ?_); rintro e w1 ⟨rfl, b1⟩)
      go_wp2_with fail
      ((with_reducible refine (ft _).mono ?_); rintro e w2 ⟨rfl, b2⟩)
      have b2 := b1.trans (b2.mono b1.size)
      clear sz ft b1
      go_wp2_with fail
      go_ret
      exact ⟨rfl, b2⟩
  · have sz := fun W => sized_no bits W h1
    rw [opR_no (by omega)]
    clear h1 hm
    go_enter Try.func11, Try.ntmps11
    go_wp2_with fail
    ((with_reducible refine (sz _).mono ?_); rintro e w1 ⟨rfl, b1⟩)
    clear sz
    go_wp2_with fail
    go_ret
    exact ⟨rfl, b1⟩
theorem rate_down (n : Nat) (bits : Int) (w : World) (hn : n < 18446744073709551616) :
    Calls Try.prog 9 #[.int .u64 (n : Int), .int .i64 bits] w (AnsW (.int .u64 (dnR n bits : Int)) w) := by
  have q1 := rate_pack n bits w hn
  have h1 := rkE_small hn bits
  have q2 := fun W => rate_open (rkE n bits) (rkM n bits) bits W (by have := rkM_small n bits; omega)
  unfold dnR
  generalize opR (rkE n bits) (rkM n bits) bits = D at q2 ⊢
  generalize rkE n bits = E at q1 q2 h1
  generalize rkM n bits = M at q1 q2
  go_enter Try.func9, Try.ntmps9
  go_wp2_with fail
  refine q1.mono ?_
  rintro e w1 ⟨rfl, b1⟩
  go_wp2_with fail
  refine (q2 _).mono ?_
  rintro e w2 ⟨rfl, b2⟩
  have b2 := b1.trans (b2.mono b1.size)
  clear q1 q2 b1
  go_wp2_with fail
  go_ret
  exact ⟨rfl, b2⟩
end Go.Proofs.Ytnhjcmfekckfgaa
