/- Contracts: rtcp.putWords, mark. Contracts: limelight/rate's (the world as it was) sized, fits, Pack, Open, Down. -/
import Derived.Test.YtnchgmemajmkjaaRcO
import Derived.Test.YtnchgmemajmkjaaRcZ
import Derived.Test.YtnchgmemajmkjaaMa
import Derived.Test.YtnchgmemajmkjaaRatR
import Derived.Lib.Hide
namespace Go.Proofs.Ytnchgmemajmkjaa
open Go.RowKit
set_option linter.unusedVariables false
set_option linter.unusedSimpArgs false
set_option maxRecDepth 20000

theorem oct_put4 (A : Option Addr) (n c : Nat) (l : List UInt8) (w : World) (h : R8 w w.heap.size A n c l) (hn : n ≤ 140737488355328) (x : Nat) (hx : x < 18446744073709551616) :
    Calls Try.prog 63 #[.slice A n c, .int .u64 x, .int .i64 4] w (New8 w (l ++ be x 4)) := put_yes A n c l w h hn x 4 (by omega) (by omega) hx
theorem oct_put2 (A : Option Addr) (n c : Nat) (l : List UInt8) (w : World) (h : R8 w w.heap.size A n c l) (hn : n ≤ 140737488355328) (x : Nat) (hx : x < 18446744073709551616) :
    Calls Try.prog 63 #[.slice A n c, .int .u64 x, .int .i64 2] w (New8 w (l ++ be x 2)) := put_yes A n c l w h hn x 2 (by omega) (by omega) hx
set_option maxHeartbeats 1000000 in
theorem putWords_any (A : Option Addr) (n c : Nat) (l : List Nat) (w : World) (h : R32 w w.heap.size A n c l) (hn : n ≤ 1000000) :
    Calls Try.prog 60 #[.slice A n c] w (Out8 w (wB l)) := by
  have hL := Lib.hid h.1
  go_enter Try.func60, Try.ntmps60
  go_wp2_with fail
  go_loopw [3, 5, 8] (fun bv' _ i wr => ∃ q : Nat, q ≤ n ∧ i = .int .i64 (q : Int) ∧ (∃ A1 c1, bv' = .slice A1 (q * 4) c1 ∧ R8 wr wr.heap.size A1 (q * 4) c1 (wB (l.take q))) ∧ Below w.heap.size w wr) (fun _ _ i _ => n - (intOf i).toNat)
  case atStart => exact ⟨0, by omega, rfl, ⟨none, 0, rfl, R8.nil _ _ _ _⟩, Below.refl _ _⟩
  case round =>
    obtain ⟨q, hq, rfl, ⟨A1, c1, rfl, hr⟩, hbr⟩ := hrel
    by_cases hlt : q < n
    · have g3 : decide ((q : Int) < (n : Int)) = true := by simp; omega
      have hql : q < l.length := by rw [hL.out]; exact hlt
      obtain ⟨b, off, rfl, hbl, k0⟩ := h.at hql
      have c0 := (hbr.cell (p := ⟨b, off + q, none⟩) hbl).trans k0
      have htk := Lib.hid (wB_take hql)
      have hx := h.2.2.1 _ (List.getElem_mem hql)
      have hput := oct_put4 A1 (q * 4) c1 _ wr hr (by omega) l[q] (by omega)
      clear k0 h hr
      generalize l[q] = x at c0 hput htk hx
      go_wp2_with fail
      ((with_reducible refine hput.mono ?_); rintro e w1 h1)
      have h1 := h1.out
      rw [htk.out] at h1
      obtain ⟨A2, m2, c2, rfl, r2, b2⟩ := h1
      have hm2 : m2 = (q + 1) * 4 := by
        have := r2.1
        rw [wB_len, List.length_take] at this
        omega
      subst hm2
      have b2 := hbr.trans (b2.mono hbr.size)
      clear hput c0 hbr htk hx
      go_wp2_with fail
      go_roundw
      case rel => exact ⟨q + 1, by omega, by go_num, ⟨_, _, rfl, r2⟩, b2⟩
      case measure => simp [intOf]; omega
    · have g3 : ¬ (q : Int) < (n : Int) := by omega
      rw [List.take_of_length_le (by rw [hL.out]; omega)] at hr
      clear h
      go_wp2_with fail
      go_ret
      exact ⟨_, _, _, rfl, hr, hbr⟩
set_option maxHeartbeats 1000000 in
theorem mark_any (x : Rv) (w : World) (hk : 1 ≤ x.r.kind ∧ x.r.kind ≤ 6) : Calls Try.prog 62 #[x.val] w (AnsW (.tuple #[.int .i64 x.r.tc.1, .int .i64 x.r.tc.2]) w) := by
  obtain ⟨⟨kind, src, about, tups, abouts, nums, rate, ty, count, body⟩, At, ct, Aa, ca, An, cn, Ab, cb⟩ := x
  simp only at hk
  simp only [Rv.val, Rv.cells]
  have hb : Below w.heap.size w (w.alloc (.cells #[.int .i64 kind, .int .u32 (src : Int), .int .u32 (about : Int), .slice At tups.length ct, .slice Aa abouts.length ca, .slice An nums.length cn, .int .u64 (rate : Int), .int .i64 ty, .int .i64 count, .slice Ab body.length cb] 33)) := (Below.refl _ w).alloc (Nat.le_refl _) _
  have hc : kind = 1 ∨ kind = 2 ∨ kind = 3 ∨ kind = 4 ∨ kind = 5 ∨ kind = 6 := by omega
  clear hk
  rcases hc with rfl | rfl | rfl | rfl | rfl | rfl
  · rw [show (Rep.tc ⟨1, src, about, tups, abouts, nums, rate, ty, count, body⟩) = (205, 3) from rfl]
    go_enter Try.func62, Try.ntmps62
    go_wp2_with fail
    go_ret2
    exact ⟨rfl, hb⟩
  · rw [show (Rep.tc ⟨2, src, about, tups, abouts, nums, rate, ty, count, body⟩) = (205, 4) from rfl]
    go_enter Try.func62, Try.ntmps62
    go_wp2_with fail
    go_ret2
    exact ⟨rfl, hb⟩
  · rw [show (Rep.tc ⟨3, src, about, tups, abouts, nums, rate, ty, count, body⟩) = (206, 1) from rfl]
    go_enter Try.func62, Try.ntmps62
    go_wp2_with fail
    go_ret2
    exact ⟨rfl, hb⟩
  · rw [show (Rep.tc ⟨4, src, about, tups, abouts, nums, rate, ty, count, body⟩) = (206, 4) from rfl]
    go_enter Try.func62, Try.ntmps62
    go_wp2_with fail
    go_ret2
    exact ⟨rfl, hb⟩
  · rw [show (Rep.tc ⟨5, src, about, tups, abouts, nums, rate, ty, count, body⟩) = (206, 15) from rfl]
    go_enter Try.func62, Try.ntmps62
    go_wp2_with fail
    go_ret2
    exact ⟨rfl, hb⟩
  · rw [show (Rep.tc ⟨6, src, about, tups, abouts, nums, rate, ty, count, body⟩) = (ty, count) from rfl]
    go_enter Try.func62, Try.ntmps62
    go_wp2_with fail
    go_quiet (fail)
    go_wp2_with fail
    go_ret2
    exact ⟨rfl, hb.trans ((below_drewN _ _ nq).mono hb.size)⟩
end Go.Proofs.Ytnchgmemajmkjaa
namespace Go.Proofs.Ytnchgmemajmkjaa
open Go.RowKit
set_option linter.unusedVariables false
set_option linter.unusedSimpArgs false
set_option maxRecDepth 20000

theorem sized_yes_s (bits : Int) (w : World) (h : 1 ≤ bits ∧ bits ≤ 24) : Calls Try.prog 86 #[.int .i64 bits] w (AnsS (.bool true) w) := by
  obtain ⟨h1, h2⟩ := h
  go_enter Try.func86, Try.ntmps86
  go_wp2_with fail
  go_ret
  exact ⟨rfl, rfl⟩
theorem sized_no_s (bits : Int) (w : World) (h : ¬ (1 ≤ bits ∧ bits ≤ 24)) : Calls Try.prog 86 #[.int .i64 bits] w (AnsS (.bool false) w) := by
  by_cases h1 : 1 ≤ bits
  · have h2 : decide (bits ≤ 24) = false := by simp only [decide_eq_false_iff_not]; omega
    clear h
    go_enter Try.func86, Try.ntmps86
    go_wp2_with fail
    go_ret
    exact ⟨rfl, rfl⟩
  · have h2 : bits < 1 := by omega
    clear h
    go_enter Try.func86, Try.ntmps86
    go_wp2_with fail
    go_ret
    exact ⟨rfl, rfl⟩
theorem fits_any_s (n b : Nat) (w : World) (hn : n < 18446744073709551616) (hb : b ≤ 24) : Calls Try.prog 87 #[.int .u64 (n : Int), .int .i64 (b : Int)] w (AnsS (.bool (decide (n < 2 ^ b))) w) := by
  have mn : min b 64 = b := by omega
  have e : decide (n < 2 ^ b) = ((n : Int) / 2 ^ b == 0) := by
    have h1 := Nat.div_eq_zero_iff (a := n) (b := 2 ^ b)
    have h2 := Nat.two_pow_pos b
    rw [dv_pow, Bool.eq_iff_iff]
    simp only [decide_eq_true_eq, beq_iff_eq]
    omega
  have he := Lib.hid e
  clear e
  go_enter Try.func87, Try.ntmps87
  go_wp2_with fail
  go_ret
  exact ⟨by rw [he.out]; rfl, rfl⟩
theorem fits_yes_s (n b : Nat) (w : World) (hn : n < 18446744073709551616) (hb : b ≤ 24) (h : n < 2 ^ b) : Calls Try.prog 87 #[.int .u64 (n : Int), .int .i64 (b : Int)] w (AnsS (.bool true) w) := by
  have := fits_any_s n b w hn hb
  rwa [decide_eq_true h] at this
theorem fits_no_s (n b : Nat) (w : World) (hn : n < 18446744073709551616) (hb : b ≤ 24) (h : ¬ n < 2 ^ b) : Calls Try.prog 87 #[.int .u64 (n : Int), .int .i64 (b : Int)] w (AnsS (.bool false) w) := by
  have := fits_any_s n b w hn hb
  rwa [decide_eq_false h] at this
set_option maxRecDepth 100000 in
theorem rate_pack_s (n : Nat) (bits : Int) (w : World) (hn : n < 18446744073709551616) :
    Calls Try.prog 80 #[.int .u64 (n : Int), .int .i64 bits] w (AnsS (.tuple #[.int .i64 (rkE n bits : Int), .int .u32 (rkM n bits : Int)]) w) := by
  by_cases h1 : 1 ≤ bits ∧ bits ≤ 24
  · have sz := fun W => sized_yes_s bits W h1
    obtain ⟨b, rfl⟩ : ∃ b : Nat, bits = (b : Int) := ⟨bits.toNat, by omega⟩
    have hb : 1 ≤ b ∧ b ≤ 24 := by omega
    have r1 : rkE n b = pkE n b := by unfold rkE; rw [if_pos h1]; rfl
    have r2 : rkM n b = pkM n b := by unfold rkM; rw [if_pos h1]; rfl
    rw [r1, r2]
    clear r1 r2 h1
    go_enter Try.func80, Try.ntmps80
    go_wp2_with fail
    ((with_reducible refine (sz _).mono ?_); rintro e w1 ⟨rfl, rfl⟩)
    clear sz
    go_wp2_with fail
    go_loopw [0, 6] (fun nv ev wr => ∃ e : Nat, e ≤ pkE n b ∧ nv = .int .u64 ((n / 2 ^ e : Nat) : Int) ∧ ev = .int .i64 (e : Int) ∧ wr = w) (fun _ ev _ => pkE n b - (intOf ev).toNat)
    case atStart => exact ⟨0, by omega, by simp, rfl, rfl⟩
    case round =>
      obtain ⟨e, he, rfl, rfl, rfl⟩ := hrel
      have h63 := pkE_le (n := n) (b := b) (by omega) hb.1
      have hle : n / 2 ^ e ≤ n := Nat.div_le_self _ _
      have hdd : n / 2 ^ e / 2 = n / 2 ^ (e + 1) := by rw [Nat.div_div_eq_div_mul, Nat.pow_succ]
      have hp := pk_lt n b e
      have hM := pkM_lt n b
      have hM2 : 2 ^ b ≤ 2 ^ 24 := Nat.pow_le_pow_right (by omega) hb.2
      have hm : e = pkE n b → n / 2 ^ e = pkM n b := by rintro rfl; rfl
      have HM := Lib.hid hm
      have HD := Lib.hid hdd
      clear hm hdd
      generalize n / 2 ^ e = X at hle hp HM HD ⊢
      by_cases hq : e < pkE n b
      · have ft := fun W => fits_no_s X b W (by omega) hb.2 (by rw [hp]; omega)
        clear hp hM hM2
        go_wp2_with fail
        ((with_reducible refine (ft _).mono ?_); rintro e w2 ⟨rfl, rfl⟩)
        clear ft
        go_wp2_with fail
        go_roundw
        case rel => exact ⟨e + 1, by omega, by rw [← HD.out]; simp, by go_num, trivial⟩
        case measure => simp [intOf]; omega
      · obtain rfl : e = pkE n b := by omega
        have ft := fun W => fits_yes_s X b W (by omega) hb.2 (by rw [hp]; omega)
        obtain rfl := HM.out rfl
        clear hp HM HD
        go_wp2_with fail
        ((with_reducible refine (ft _).mono ?_); rintro e w2 ⟨rfl, rfl⟩)
        clear ft
        go_wp2_with fail
        go_ret2
        exact ⟨rfl, rfl⟩
  · have sz := fun W => sized_no_s bits W h1
    have r1 : rkE n bits = 0 := by unfold rkE; rw [if_neg h1]
    have r2 : rkM n bits = 0 := by unfold rkM; rw [if_neg h1]
    rw [r1, r2]
    clear r1 r2 h1
    go_enter Try.func80, Try.ntmps80
    go_wp2_with fail
    ((with_reducible refine (sz _).mono ?_); rintro e w1 ⟨rfl, rfl⟩)
    clear sz
    go_wp2_with fail
    go_ret2
    exact ⟨rfl, rfl⟩
set_option maxRecDepth 100000 in
theorem rate_open_s (exp : Int) (man : Nat) (bits : Int) (w : World) (hm : man < 4294967296) :
    Calls Try.prog 82 #[.int .i64 exp, .int .u32 (man : Int), .int .i64 bits] w (AnsS (.int .u64 (opR exp man bits : Int)) w) := by
  by_cases h1 : 1 ≤ bits ∧ bits ≤ 24
  · have sz := fun W => sized_yes_s bits W h1
    by_cases h3 : exp < 0
    · rw [opR_no (by omega)]
      clear h1 hm
      go_enter Try.func82, Try.ntmps82
      go_wp2_with fail
      ((with_reducible refine (sz _).mono ?_); rintro e w1 ⟨rfl, rfl⟩)
      clear sz
      go_wp2_with fail
      go_ret
      exact ⟨rfl, rfl⟩
    by_cases h4 : 63 < exp
    · rw [opR_no (by omega)]
      clear h1 hm
      go_enter Try.func82, Try.ntmps82
      go_wp2_with fail
      ((with_reducible refine (sz _).mono ?_); rintro e w1 ⟨rfl, rfl⟩)
      clear sz
      go_wp2_with fail
      go_ret
      exact ⟨rfl, rfl⟩
    obtain ⟨b, rfl⟩ : ∃ b : Nat, bits = (b : Int) := ⟨bits.toNat, by omega⟩
    obtain ⟨e, rfl⟩ : ∃ e : Nat, exp = (e : Int) := ⟨exp.toNat, by omega⟩
    have hbb : 1 ≤ b ∧ b ≤ 24 := by omega
    have hee : e ≤ 63 := by omega
    have d1 : decide ((e : Int) < 0) = false := by simp
    have d2 : decide (63 < (e : Int)) = false := by simp; omega
    have mn : min e 64 = e := by omega
    clear h1 h3 h4
    by_cases h5 : man < 2 ^ b
    · have ft := fun W => fits_yes_s man b W (by omega) hbb.2 h5
      have hin : opR e man b = opN e man := by unfold opR; exact if_pos ⟨by omega, by omega, h5⟩
      rw [hin]
      clear hin
      have hfit : man * 2 ^ e < 2 ^ 64 ↔ man ≤ 18446744073709551615 / 2 ^ e := by
        rw [Nat.le_div_iff_mul_le (Nat.two_pow_pos _)]
        omega
      have sh := sh64 man e
      have dv := dv_pow 18446744073709551615 e
      have SH := Lib.hid sh
      clear sh h5
      by_cases h6 : man * 2 ^ e < 2 ^ 64
      · rw [op_fits h6]
        have d : decide ((18446744073709551615 : Int) / 2 ^ e < (man : Int)) = false := by
          have h7 := hfit.1 h6
          have h8 : (18446744073709551615 : Int) / 2 ^ e = ((18446744073709551615 / 2 ^ e : Nat) : Int) := dv
          rw [h8]
          simp only [decide_eq_false_iff_not]
          omega
        have HM := Lib.hid (Nat.mod_eq_of_lt h6)
        clear hfit dv h6
        go_enter Try.func82, Try.ntmps82
        go_wp2_with fail
        ((with_reducible refine (sz _).mono ?_); rintro e w1 ⟨rfl, rfl⟩)
        go_wp2_with fail
        ((with_reducible refine (ft _).mono ?_); rintro e w2 ⟨rfl, rfl⟩)
        clear sz ft
        go_wp2_with fail
        go_ret
        refine ⟨?_, rfl⟩
        rw [← HM.out, ← SH.out]
        rfl
      · rw [op_over h6]
        have d : decide ((18446744073709551615 : Int) / 2 ^ e < (man : Int)) = true := by
          have h7 := mt hfit.2 h6
          have h8 : (18446744073709551615 : Int) / 2 ^ e = ((18446744073709551615 / 2 ^ e : Nat) : Int) := dv
          rw [h8]
          simp only [decide_eq_true_eq]
          omega
        clear hfit dv h6 SH
        go_enter Try.func82, Try.ntmps82
        go_wp2_with fail
        ((with_reducible refine (sz _).mono ?_); rintro e w1 ⟨rfl, rfl⟩)
        go_wp2_with fail
        ((with_reducible refine (ft _).mono ?_); rintro e w2 ⟨rfl, rfl⟩)
        clear sz ft
        go_wp2_with fail
        go_ret
        exact ⟨rfl, rfl⟩
    · have ft := fun W => fits_no_s man b W (by omega) hbb.2 h5
      rw [opR_no (fun h => h5 h.2.2)]
      clear h5 mn
      go_enter Try.func82, Try.ntmps82
      go_wp2_with fail
      ((with_reducible refine (sz _).mono ?_); rintro e w1 ⟨rfl, rfl⟩)
      go_wp2_with fail
      ((with_reducible refine (ft _).mono ?_); rintro e w2 ⟨rfl, rfl⟩)
      clear sz ft
      go_wp2_with fail
      go_ret
      exact ⟨rfl, rfl⟩
  · have sz := fun W => sized_no_s bits W h1
    rw [opR_no (by omega)]
    clear h1 hm
    go_enter Try.func82, Try.ntmps82
    go_wp2_with fail
    ((with_reducible refine (sz _).mono ?_); rintro e w1 ⟨rfl, rfl⟩)
    clear sz
    go_wp2_with fail
    go_ret
    exact ⟨rfl, rfl⟩
theorem rate_down_s (n : Nat) (bits : Int) (w : World) (hn : n < 18446744073709551616) :
    Calls Try.prog 77 #[.int .u64 (n : Int), .int .i64 bits] w (AnsS (.int .u64 (dnR n bits : Int)) w) := by
  have q1 := rate_pack_s n bits w hn
  have h1 := rkE_small hn bits
  have q2 := fun W => rate_open_s (rkE n bits) (rkM n bits) bits W (by have := rkM_small n bits; omega)
  unfold dnR
  generalize opR (rkE n bits) (rkM n bits) bits = D at q2 ⊢
  generalize rkE n bits = E at q1 q2 h1
  generalize rkM n bits = M at q1 q2
  go_enter Try.func77, Try.ntmps77
  go_wp2_with fail
  refine q1.mono ?_
  rintro e w1 ⟨rfl, rfl⟩
  go_wp2_with fail
  refine (q2 _).mono ?_
  rintro e w2 ⟨rfl, rfl⟩
  clear q1 q2
  go_wp2_with fail
  go_ret
  exact ⟨rfl, rfl⟩
end Go.Proofs.Ytnchgmemajmkjaa
