/- Contracts: limelightref1.Pack, Open, Down, Rate. Contracts: limelightref1.Rate, limelight/rate.Bytes. -/
import Derived.Test.YtfijlgkgbbemnaaMem
import Derived.Test.YtfijlgkgbbemnaaRatP
namespace Go.Proofs.Ytfijlgkgbbemnaa
open Go.RowKit
set_option linter.unusedVariables false
set_option linter.unusedSimpArgs false
set_option maxRecDepth 20000

def rkE (n : Nat) (bits : Int) : Nat := if 1 ≤ bits ∧ bits ≤ 24 then pkE n bits.toNat else 0
def rkM (n : Nat) (bits : Int) : Nat := if 1 ≤ bits ∧ bits ≤ 24 then pkM n bits.toNat else 0
def opR (exp : Int) (man : Nat) (bits : Int) : Nat := if (1 ≤ bits ∧ bits ≤ 24) ∧ (0 ≤ exp ∧ exp ≤ 63) ∧ man < 2 ^ bits.toNat then opN exp.toNat man else 0
def dnR (n : Nat) (bits : Int) : Nat := opR (rkE n bits) (rkM n bits) bits
def btR (n : Nat) : Nat := min (n / 8) 1099511627776
def AnsW (v : Value) (w : World) (e : Ending) (w' : World) : Prop := e = .returned v ∧ Below w.heap.size w w'
/-- .. and the world is as it was. -/
def AnsS (v : Value) (w : World) (e : Ending) (w' : World) : Prop := e = .returned v ∧ w = w'
theorem AnsS.ans {v : Value} {w w' : World} {e : Ending} (h : AnsS v w e w') : AnsW v w e w' := ⟨h.1, h.2 ▸ Below.refl _ _⟩

theorem pw64 (b : Nat) (hb : b ≤ 63) : IntKind.u64.wrap ((2 : Int) ^ b) = ((2 ^ b : Nat) : Int) := by
  have h1 : 2 ^ b ≤ 2 ^ 63 := Nat.pow_le_pow_right (by omega) hb
  have h2 : ((2 : Int) ^ b) = ((2 ^ b : Nat) : Int) := by simp
  rw [h2]
  generalize 2 ^ b = X at h1
  rw [IntKind.wrap_u64]
  omega
theorem dv_pow (n e : Nat) : (n : Int) / 2 ^ e = ((n / 2 ^ e : Nat) : Int) := by simp
set_option maxRecDepth 100000 in
theorem ref_pack_s (n : Nat) (bits : Int) (w : World) (hn : n < 18446744073709551616) :
    Calls Try.prog 36 #[.int .u64 (n : Int), .int .i64 bits] w (AnsS (.tuple #[.int .i64 (rkE n bits : Int), .int .u32 (rkM n bits : Int)]) w) := by
  by_cases h1 : 1 ≤ bits ∧ bits ≤ 24
  · obtain ⟨b, rfl⟩ : ∃ b : Nat, bits = (b : Int) := ⟨bits.toNat, by omega⟩
    have hb : 1 ≤ b ∧ b ≤ 24 := by omega
    have r1 : rkE n b = pkE n b := by unfold rkE; rw [if_pos h1]; rfl
    have r2 : rkM n b = pkM n b := by unfold rkM; rw [if_pos h1]; rfl
    rw [r1, r2]
    clear r1 r2 h1
    have g1 : ¬ (b : Int) < 1 := by omega
    have g2 : ¬ (24 : Int) < (b : Int) := by omega
    go_enter Try.func36, Try.ntmps36
    go_wp2_with fail
    go_loopw [6] (fun ev wr => ∃ e : Nat, e ≤ pkE n b ∧ ev = .int .i64 (e : Int) ∧ wr = w) (fun ev _ => pkE n b - (intOf ev).toNat)
    case atStart => exact ⟨0, by omega, rfl, rfl⟩
    case round =>
      obtain ⟨e, he, rfl, rfl⟩ := hrel
      have h63 := pkE_le (n := n) (b := b) (by omega) hb.1
      have pw := pw64 b (by omega)
      have dv := dv_pow n e
      have hM := pkM_lt n b
      have hM2 : 2 ^ b ≤ 2 ^ 24 := Nat.pow_le_pow_right (by omega) hb.2
      by_cases hq : e < pkE n b
      · have g3 : IntKind.u64.wrap (2 ^ b) ≤ (n : Int) / 2 ^ e := by
          have := mt (pk_lt n b e).1 (by omega)
          rw [pw, dv]
          omega
        clear pw dv hM hM2
        go_wp2_with fail
        go_roundw
        case rel => exact ⟨e + 1, by omega, by go_num, trivial⟩
        case measure => simp [intOf]; omega
      · obtain rfl : e = pkE n b := by omega
        have g3 : (n : Int) / 2 ^ pkE n b < IntKind.u64.wrap (2 ^ b) := by
          have := (pk_lt n b (pkE n b)).2 (Nat.le_refl _)
          rw [pw, dv]
          omega
        have hv : (n : Int) / 2 ^ pkE n b % 4294967296 = (pkM n b : Int) := by
          rw [dv]
          show ((pkM n b : Nat) : Int) % 4294967296 = _
          omega
        clear pw dv hM hM2
        have hvh := Lib.hid hv
        clear hv
        go_wp2_with fail
        go_ret2
        rw [hvh.out]
        exact ⟨rfl, rfl⟩
  · have r1 : rkE n bits = 0 := by unfold rkE; rw [if_neg h1]
    have r2 : rkM n bits = 0 := by unfold rkM; rw [if_neg h1]
    rw [r1, r2]
    clear r1 r2
    by_cases h2 : bits < 1
    · go_enter Try.func36, Try.ntmps36
      go_wp2_with fail
      go_ret2
      exact ⟨rfl, rfl⟩
    · have h3 : 24 < bits := by omega
      go_enter Try.func36, Try.ntmps36
      go_wp2_with fail
      go_ret2
      exact ⟨rfl, rfl⟩
theorem opR_no {exp bits : Int} {man : Nat} (h : ¬ ((1 ≤ bits ∧ bits ≤ 24) ∧ (0 ≤ exp ∧ exp ≤ 63) ∧ man < 2 ^ bits.toNat)) : opR exp man bits = 0 := if_neg h
theorem pw32 (b : Nat) (hb : b ≤ 24) : IntKind.u32.wrap ((2 : Int) ^ b) = ((2 ^ b : Nat) : Int) := by
  have h1 : 2 ^ b ≤ 2 ^ 24 := Nat.pow_le_pow_right (by omega) hb
  have h2 : ((2 : Int) ^ b) = ((2 ^ b : Nat) : Int) := by simp
  rw [h2]
  generalize 2 ^ b = X at h1
  rw [IntKind.wrap_u32]
  omega
theorem sh64 (m e : Nat) : IntKind.u64.wrap ((m : Int) * 2 ^ e) = ((m * 2 ^ e % 2 ^ 64 : Nat) : Int) := by
  have h2 : ((m : Int) * 2 ^ e) = ((m * 2 ^ e : Nat) : Int) := by simp
  rw [h2]
  generalize m * 2 ^ e = X
  rw [IntKind.wrap_u64]
  omega
set_option maxRecDepth 100000 in
theorem ref_open_s (exp : Int) (man : Nat) (bits : Int) (w : World) (hm : man < 4294967296) (hb64 : -9223372036854775808 ≤ bits ∧ bits ≤ 9223372036854775807) (he64 : -9223372036854775808 ≤ exp ∧ exp ≤ 9223372036854775807) :
    Calls Try.prog 37 #[.int .i64 exp, .int .u32 (man : Int), .int .i64 bits] w (AnsS (.int .u64 (opR exp man bits : Int)) w) := by
  by_cases h1 : bits < 1
  · rw [opR_no (by omega)]
    go_enter Try.func37, Try.ntmps37
    go_wp2_with fail
    go_ret
    exact ⟨rfl, rfl⟩
  by_cases h2 : 24 < bits
  · rw [opR_no (by omega)]
    go_enter Try.func37, Try.ntmps37
    go_wp2_with fail
    go_ret
    exact ⟨rfl, rfl⟩
  by_cases h3 : exp < 0
  · rw [opR_no (by omega)]
    go_enter Try.func37, Try.ntmps37
    go_wp2_with fail
    go_ret
    exact ⟨rfl, rfl⟩
  by_cases h4 : 63 < exp
  · rw [opR_no (by omega)]
    go_enter Try.func37, Try.ntmps37
    go_wp2_with fail
    go_ret
    exact ⟨rfl, rfl⟩
  obtain ⟨b, rfl⟩ : ∃ b : Nat, bits = (b : Int) := ⟨bits.toNat, by omega⟩
  obtain ⟨e, rfl⟩ : ∃ e : Nat, exp = (e : Int) := ⟨exp.toNat, by omega⟩
  have hbb : 1 ≤ b ∧ b ≤ 24 := by omega
  have hee : e ≤ 63 := by omega
  clear h1 h2 h3 h4 hb64 he64
  have pw : (2 : Int) ^ b % 4294967296 = ((2 ^ b : Nat) : Int) := by rw [← IntKind.wrap_u32]; exact pw32 b hbb.2
  have d1 : decide ((b : Int) < 1) = false := by simp; omega
  have d2 : decide (24 < (b : Int)) = false := by simp; omega
  have d3 : decide ((e : Int) < 0) = false := by simp
  have d4 : decide (63 < (e : Int)) = false := by simp; omega
  by_cases h5 : man < 2 ^ b
  · have d5 : decide ((2 : Int) ^ b % 4294967296 ≤ (man : Int)) = false := by rw [pw]; simp only [decide_eq_false_iff_not]; omega
    have hin : opR e man b = opN e man := by unfold opR; exact if_pos ⟨by omega, by omega, h5⟩
    rw [hin]
    clear hin pw
    have sh := sh64 man e
    by_cases h6 : man * 2 ^ e < 2 ^ 64
    · rw [op_fits h6]
      rw [Nat.mod_eq_of_lt h6] at sh
      have hbk : ((man * 2 ^ e : Nat) : Int) / 2 ^ e = (man : Int) := by
        rw [dv_pow, Nat.mul_div_cancel _ (Nat.two_pow_pos e)]
      generalize man * 2 ^ e = X at sh hbk h6 ⊢
      go_enter Try.func37, Try.ntmps37
      go_wp2_with fail
      go_ret
      exact ⟨rfl, rfl⟩
    · rw [op_over h6]
      have hbk : ((man * 2 ^ e % 2 ^ 64 : Nat) : Int) / 2 ^ e ≠ (man : Int) := by
        rw [dv_pow]
        intro h
        exact h6 ((op_back hee).1 (by exact_mod_cast h))
      have hX : man * 2 ^ e % 2 ^ 64 < 2 ^ 64 := Nat.mod_lt _ (by omega)
      generalize man * 2 ^ e % 2 ^ 64 = X at sh hbk hX ⊢
      have hbk' : (((X : Int) / 2 ^ e) == (man : Int)) = false := by simpa using hbk
      go_enter Try.func37, Try.ntmps37
      go_wp2_with fail
      go_ret
      exact ⟨rfl, rfl⟩
  · have d5 : decide ((2 : Int) ^ b % 4294967296 ≤ (man : Int)) = true := by rw [pw]; simp only [decide_eq_true_eq]; omega
    rw [opR_no (fun h => h5 h.2.2)]
    clear pw
    go_enter Try.func37, Try.ntmps37
    go_wp2_with fail
    go_ret
    exact ⟨rfl, rfl⟩
theorem rkM_small (n : Nat) (bits : Int) : rkM n bits < 16777216 := by
  unfold rkM
  by_cases h : 1 ≤ bits ∧ bits ≤ 24
  · rw [if_pos h]
    have h1 := pkM_lt n bits.toNat
    have h2 : 2 ^ bits.toNat ≤ 2 ^ 24 := Nat.pow_le_pow_right (by omega) (by omega)
    omega
  · rw [if_neg h]; omega
theorem rkE_small {n : Nat} (hn : n < 18446744073709551616) (bits : Int) : rkE n bits ≤ 63 := by
  unfold rkE
  by_cases h : 1 ≤ bits ∧ bits ≤ 24
  · rw [if_pos h]
    exact pkE_le (by omega) (by omega)
  · rw [if_neg h]; omega
theorem dnR_in {n : Nat} (hn : n < 18446744073709551616) {bits : Int} (h : 1 ≤ bits ∧ bits ≤ 24) : dnR n bits = dnN n bits.toNat := by
  have h1 := rkE_small hn bits
  have e1 : rkE n bits = pkE n bits.toNat := if_pos h
  have e2 : rkM n bits = pkM n bits.toNat := if_pos h
  rw [e1] at h1
  unfold dnR opR
  rw [e1, e2]
  rw [if_pos ⟨h, by omega, pkM_lt n _⟩]
  exact op_pack (by omega)
theorem dnR_out {n : Nat} {bits : Int} (h : ¬ (1 ≤ bits ∧ bits ≤ 24)) : dnR n bits = 0 := opR_no (fun h1 => h h1.1)
theorem ref_down_s (n : Nat) (bits : Int) (w : World) (hn : n < 18446744073709551616) (hb64 : -9223372036854775808 ≤ bits ∧ bits ≤ 9223372036854775807) :
    Calls Try.prog 21 #[.int .u64 (n : Int), .int .i64 bits] w (AnsS (.int .u64 (dnR n bits : Int)) w) := by
  have q1 := ref_pack_s n bits w hn
  have h1 := rkE_small hn bits
  have q2 := fun W => ref_open_s (rkE n bits) (rkM n bits) bits W (by have := rkM_small n bits; omega) hb64 (by omega)
  unfold dnR
  generalize opR (rkE n bits) (rkM n bits) bits = D at q2 ⊢
  generalize rkE n bits = E at q1 q2 h1
  generalize rkM n bits = M at q1 q2
  go_enter Try.func21, Try.ntmps21
  go_wp2_with fail
  refine q1.mono ?_
  rintro e w1 ⟨rfl, rfl⟩
  go_wp2_with fail
  refine (q2 _).mono ?_
  rintro e w2 ⟨rfl, rfl⟩
  clear q1 q2
  go_wp2_with fail
  go_ret
  exact ⟨rfl, rfl⟩
theorem ref_pack (n : Nat) (bits : Int) (w : World) (hn : n < 18446744073709551616) :
    Calls Try.prog 36 #[.int .u64 (n : Int), .int .i64 bits] w (AnsW (.tuple #[.int .i64 (rkE n bits : Int), .int .u32 (rkM n bits : Int)]) w) :=
  (ref_pack_s n bits w hn).mono fun _ _ h => h.ans
theorem ref_open (exp : Int) (man : Nat) (bits : Int) (w : World) (hm : man < 4294967296) (hb64 : -9223372036854775808 ≤ bits ∧ bits ≤ 9223372036854775807) (he64 : -9223372036854775808 ≤ exp ∧ exp ≤ 9223372036854775807) :
    Calls Try.prog 37 #[.int .i64 exp, .int .u32 (man : Int), .int .i64 bits] w (AnsW (.int .u64 (opR exp man bits : Int)) w) :=
  (ref_open_s exp man bits w hm hb64 he64).mono fun _ _ h => h.ans
theorem ref_down (n : Nat) (bits : Int) (w : World) (hn : n < 18446744073709551616) (hb64 : -9223372036854775808 ≤ bits ∧ bits ≤ 9223372036854775807) :
    Calls Try.prog 21 #[.int .u64 (n : Int), .int .i64 bits] w (AnsW (.int .u64 (dnR n bits : Int)) w) :=
  (ref_down_s n bits w hn hb64).mono fun _ _ h => h.ans
end Go.Proofs.Ytfijlgkgbbemnaa
namespace Go.Proofs.Ytfijlgkgbbemnaa
open Go.RowKit
set_option linter.unusedVariables false
set_option linter.unusedSimpArgs false
set_option maxRecDepth 20000

theorem ref_rate (n : Nat) (w : World) (hn : n < 18446744073709551616) : Calls Try.prog 40 #[.int .u64 (n : Int)] w (AnsW (.int .i64 (btR n : Int)) w) := by
  go_enter Try.func40, Try.ntmps40
  go_wp2_with fail
  · have hv : (btR n : Int) = 1099511627776 := by unfold btR; omega
    go_ret
    rw [hv]
    exact ⟨rfl, Below.refl _ _⟩
  · have hv : (btR n : Int) = (n : Int) / 8 := by unfold btR; omega
    go_ret
    rw [hv]
    exact ⟨rfl, Below.refl _ _⟩
theorem rate_bytes (n : Nat) (w : World) (hn : n < 18446744073709551616) : Calls Try.prog 31 #[.int .u64 (n : Int)] w (AnsW (.int .i64 (btR n : Int)) w) := by
  go_enter Try.func31, Try.ntmps31
  go_wp2_with fail
  · have hv : (btR n : Int) = 1099511627776 := by unfold btR; omega
    go_ret
    rw [hv]
    exact ⟨rfl, Below.refl _ _⟩
  · have hv : (btR n : Int) = (n : Int) / 8 := by unfold btR; omega
    go_ret
    rw [hv]
    exact ⟨rfl, Below.refl _ _⟩
end Go.Proofs.Ytfijlgkgbbemnaa
