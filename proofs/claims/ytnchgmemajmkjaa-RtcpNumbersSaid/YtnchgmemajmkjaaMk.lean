/- Contracts: rtcp.putWords, mark. Contracts: limelight/rate's (the world as it was) sized, fits, Pack, Open, Down. Contract: rtcp.words. -/
import Derived.Test.YtnchgmemajmkjaaRcO
import Derived.Test.YtnchgmemajmkjaaRcZ
import Derived.Test.YtnchgmemajmkjaaMa
import Derived.Test.YtnchgmemajmkjaaRatR
import Derived.Lib.Hide
import Derived.Test.YtnchgmemajmkjaaRcB5
import Derived.Test.YtnchgmemajmkjaaRcB4
namespace Go.Proofs.Ytnchgmemajmkjaa
open Go.RowKit
set_option linter.unusedVariables false
set_option linter.unusedSimpArgs false
set_option maxRecDepth 20000

theorem oct_put4 (A : Option Addr) (n c : Nat) (l : List UInt8) (w : World) (h : R8 w w.heap.size A n c l) (hn : n ≤ 140737488355328) (x : Nat) (hx : x < 18446744073709551616) :
    Calls Try.prog 63 #[.slice A n c, .int .u64 x, .int .i64 4] w (New8 w (l ++ be x 4)) := put_yes A n c l w h hn x 4 (by omega) (by omega) hx
theorem oct_put2 (A : Option Addr) (n c : Nat) (l : List UInt8) (w : World) (h : R8 w w.heap.size A n c l) (hn : n ≤ 140737488355328) (x : Nat) (hx : x < 18446744073709551616) :
    Calls Try.prog 63 #[.slice A n c, .int .u64 x, .int .i64 2] w (New8 w (l ++ be x 2)) := put_yes A n c l w h hn x 2 (by omega) (by omega) hx
set_option maxHeartbeats 1000000 in
theorem putWords_any (A : Option Addr) (n c : Nat) (l : List Nat) (w : World) (h : R32 w w.heap.size A n c l) (hn : n ≤ 1000000) :
    Calls Try.prog 60 #[.slice A n c] w (Out8 w (wB l)) := by
  have hL := Lib.hid h.1
  go_enter Try.func60, Try.ntmps60
  go_wp2_with fail
  go_loopw [3, 5, 8] (fun bv' _ i wr => ∃ q : Nat, q ≤ n ∧ i = .int .i64 (q : Int) ∧ (∃ A1 c1, bv' = .slice A1 (q * 4) c1 ∧ R8 wr wr.heap.size A1 (q * 4) c1 (wB (l.take q))) ∧ Below w.heap.size w wr) (fun _ _ i _ => n - (intOf i).toNat)
  case atStart => exact ⟨0, by omega, rfl, ⟨none, 0, rfl, R8.nil _ _ _ _⟩, Below.refl _ _⟩
  case round =>
    obtain ⟨q, hq, rfl, ⟨A1, c1, rfl, hr⟩, hbr⟩ := hrel
    by_cases hlt : q < n
    · have g3 : decide ((q : Int) < (n : Int)) = true := by simp; omega
      have hql : q < l.length := by rw [hL.out]; exact hlt
      obtain ⟨b, off, rfl, hbl, k0⟩ := h.at hql
      have c0 := (hbr.cell (p := ⟨b, off + q, none⟩) hbl).trans k0
      have htk := Lib.hid (wB_take hql)
      have hx := h.2.2.1 _ (List.getElem_mem hql)
      have hput := oct_put4 A1 (q * 4) c1 _ wr hr (by omega) l[q] (by omega)
      clear k0 h hr
      generalize l[q] = x at c0 hput htk hx
      go_wp2_with fail
      ((with_reducible refine hput.mono ?_); rintro e w1 h1)
      have h1 := h1.out
      rw [htk.out] at h1
      obtain ⟨A2, m2, c2, rfl, r2, b2⟩ := h1
      have hm2 : m2 = (q + 1) * 4 := by
        have := r2.1
        rw [wB_len, List.length_take] at this
        omega
      subst hm2
      have b2 := hbr.trans (b2.mono hbr.size)
      clear hput c0 hbr htk hx
      go_wp2_with fail
      go_roundw
      case rel => exact ⟨q + 1, by omega, by go_num, ⟨_, _, rfl, r2⟩, b2⟩
      case measure => simp [intOf]; omega
    · have g3 : ¬ (q : Int) < (n : Int) := by omega
      rw [List.take_of_length_le (by rw [hL.out]; omega)] at hr
      clear h
      go_wp2_with fail
      go_ret
      exact ⟨_, _, _, rfl, hr, hbr⟩
set_option maxHeartbeats 1000000 in
theorem mark_any (x : Rv) (w : World) (hk : 1 ≤ x.r.kind ∧ x.r.kind ≤ 6) : Calls Try.prog 62 #[x.val] w (AnsW (.tuple #[.int .i64 x.r.tc.1, .int .i64 x.r.tc.2]) w) := by
  obtain ⟨⟨kind, src, about, tups, abouts, nums, rate, ty, count, body⟩, At, ct, Aa, ca, An, cn, Ab, cb⟩ := x
  simp only at hk
  simp only [Rv.val, Rv.cells]
  have hb : Below w.heap.size w (w.alloc (.cells #[.int .i64 kind, .int .u32 (src : Int), .int .u32 (about : Int), .slice At tups.length ct, .slice Aa abouts.length ca, .slice An nums.length cn, .int .u64 (rate : Int), .int .i64 ty, .int .i64 count, .slice Ab body.length cb] 33)) := (Below.refl _ w).alloc (Nat.le_refl _) _
  have hc : kind = 1 ∨ kind = 2 ∨ kind = 3 ∨ kind = 4 ∨ kind = 5 ∨ kind = 6 := by omega
  clear hk
  rcases hc with rfl | rfl | rfl | rfl | rfl | rfl
  · rw [show (Rep.tc ⟨1, src, about, tups, abouts, nums, rate, ty, count, body⟩) = (205, 3) from rfl]
    go_enter Try.func62, Try.ntmps62
    go_wp2_with fail
    go_ret2
    exact ⟨rfl, hb⟩
  · rw [show (Rep.tc ⟨2, src, about, tups, abouts, nums, rate, ty, count, body⟩) = (205, 4) from rfl]
    go_enter Try.func62, Try.ntmps62
    go_wp2_with fail
    go_ret2
    exact ⟨rfl, hb⟩
  · rw [show (Rep.tc ⟨3, src, about, tups, abouts, nums, rate, ty, count, body⟩) = (206, 1) from rfl]
    go_enter Try.func62, Try.ntmps62
    go_wp2_with fail
    go_ret2
    exact ⟨rfl, hb⟩
  · rw [show (Rep.tc ⟨4, src, about, tups, abouts, nums, rate, ty, count, body⟩) = (206, 4) from rfl]
    go_enter Try.func62, Try.ntmps62
    go_wp2_with fail
    go_ret2
    exact ⟨rfl, hb⟩
  · rw [show (Rep.tc ⟨5, src, about, tups, abouts, nums, rate, ty, count, body⟩) = (206, 15) from rfl]
    go_enter Try.func62, Try.ntmps62
    go_wp2_with fail
    go_ret2
    exact ⟨rfl, hb⟩
  · rw [show (Rep.tc ⟨6, src, about, tups, abouts, nums, rate, ty, count, body⟩) = (ty, count) from rfl]
    go_enter Try.func62, Try.ntmps62
    go_wp2_with fail
    go_quiet (fail)
    go_wp2_with fail
    go_ret2
    exact ⟨rfl, hb.trans ((below_drewN _ _ nq).mono hb.size)⟩
end Go.Proofs.Ytnchgmemajmkjaa
namespace Go.Proofs.Ytnchgmemajmkjaa
open Go.RowKit
set_option linter.unusedVariables false
set_option linter.unusedSimpArgs false
set_option maxRecDepth 20000

theorem sized_yes_s (bits : Int) (w : World) (h : 1 ≤ bits ∧ bits ≤ 24) : Calls Try.prog 86 #[.int .i64 bits] w (AnsS (.bool true) w) := by
  obtain ⟨h1, h2⟩ := h
  go_enter Try.func86, Try.ntmps86
  go_wp2_with fail
  go_ret
  exact ⟨rfl, rfl⟩
theorem sized_no_s (bits : Int) (w : World) (h : ¬ (1 ≤ bits ∧ bits ≤ 24)) : Calls Try.prog 86 #[.int .i64 bits] w (AnsS (.bool false) w) := by
  by_cases h1 : 1 ≤ bits
  · have h2 : decide (bits ≤ 24) = false := by simp only [decide_eq_false_iff_not]; omega
    clear h
    go_enter Try.func86, Try.ntmps86
    go_wp2_with fail
    go_ret
    exact ⟨rfl, rfl⟩
  · have h2 : bits < 1 := by omega
    clear h
    go_enter Try.func86, Try.ntmps86
    go_wp2_with fail
    go_ret
    exact ⟨rfl, rfl⟩
theorem fits_any_s (n b : Nat) (w : World) (hn : n < 18446744073709551616) (hb : b ≤ 24) : Calls Try.prog 87 #[.int .u64 (n : Int), .int .i64 (b : Int)] w (AnsS (.bool (decide (n < 2 ^ b))) w) := by
  have mn : min b 64 = b := by omega
  have e : decide (n < 2 ^ b) = ((n : Int) / 2 ^ b == 0) := by
    have h1 := Nat.div_eq_zero_iff (a := n) (b := 2 ^ b)
    have h2 := Nat.two_pow_pos b
    rw [dv_pow, Bool.eq_iff_iff]
    simp only [decide_eq_true_eq, beq_iff_eq]
    omega
  have he := Lib.hid e
  clear e
  go_enter Try.func87, Try.ntmps87
  go_wp2_with fail
  go_ret
  exact ⟨by rw [he.out]; rfl, rfl⟩
theorem fits_yes_s (n b : Nat) (w : World) (hn : n < 18446744073709551616) (hb : b ≤ 24) (h : n < 2 ^ b) : Calls Try.prog 87 #[.int .u64 (n : Int), .int .i64 (b : Int)] w (AnsS (.bool true) w) := by
  have := fits_any_s n b w hn hb
  rwa [decide_eq_true h] at this
theorem fits_no_s (n b : Nat) (w : World) (hn : n < 18446744073709551616) (hb : b ≤ 24) (h : ¬ n < 2 ^ b) : Calls Try.prog 87 #[.int .u64 (n : Int), .int .i64 (b : Int)] w (AnsS (.bool false) w) := by
  have := fits_any_s n b w hn hb
  rwa [decide_eq_false h] at this
set_option maxRecDepth 100000 in
theorem rate_pack_s (n : Nat) (bits : Int) (w : World) (hn : n < 18446744073709551616) :
    Calls Try.prog 80 #[.int .u64 (n : Int), .int .i64 bits] w (AnsS (.tuple #[.int .i64 (rkE n bits : Int), .int .u32 (rkM n bits : Int)]) w) := by
  by_cases h1 : 1 ≤ bits ∧ bits ≤ 24
  · have sz := fun W => sized_yes_s bits W h1
    obtain ⟨b, rfl⟩ : ∃ b : Nat, bits = (b : Int) := ⟨bits.toNat, by omega⟩
    have hb : 1 ≤ b ∧ b ≤ 24 := by omega
    have r1 : rkE n b = pkE n b := by unfold rkE; rw [if_pos h1]; rfl
    have r2 : rkM n b = pkM n b := by unfold rkM; rw [if_pos h1]; rfl
    rw [r1, r2]
    clear r1 r2 h1
    go_enter Try.func80, Try.ntmps80
    go_wp2_with fail
    ((with_reducible refine (sz _).mono ?_); rintro e w1 ⟨rfl, rfl⟩)
    clear sz
    go_wp2_with fail
    go_loopw [0, 6] (fun nv ev wr => ∃ e : Nat, e ≤ pkE n b ∧ nv = .int .u64 ((n / 2 ^ e : Nat) : Int) ∧ ev = .int .i64 (e : Int) ∧ wr = w) (fun _ ev _ => pkE n b - (intOf ev).toNat)
    case atStart => exact ⟨0, by omega, by simp, rfl, rfl⟩
    case round =>
      obtain ⟨e, he, rfl, rfl, rfl⟩ := hrel
      have h63 := pkE_le (n := n) (b := b) (by omega) hb.1
      have hle : n / 2 ^ e ≤ n := Nat.div_le_self _ _
      have hdd : n / 2 ^ e / 2 = n / 2 ^ (e + 1) := by rw [Nat.div_div_eq_div_mul, Nat.pow_succ]
      have hp := pk_lt n b e
      have hM := pkM_lt n b
      have hM2 : 2 ^ b ≤ 2 ^ 24 := Nat.pow_le_pow_right (by omega) hb.2
      have hm : e = pkE n b → n / 2 ^ e = pkM n b := by rintro rfl; rfl
      have HM := Lib.hid hm
      have HD := Lib.hid hdd
      clear hm hdd
      generalize n / 2 ^ e = X at hle hp HM HD ⊢
      by_cases hq : e < pkE n b
      · have ft := fun W => fits_no_s X b W (by omega) hb.2 (by rw [hp]; omega)
        clear hp hM hM2
        go_wp2_with fail
        ((with_reducible refine (ft _).mono ?_); rintro e w2 ⟨rfl, rfl⟩)
        clear ft
        go_wp2_with fail
        go_roundw
        case rel => exact ⟨e + 1, by omega, by rw [← HD.out]; simp, by go_num, trivial⟩
        case measure => simp [intOf]; omega
      · obtain rfl : e = pkE n b := by omega
        have ft := fun W => fits_yes_s X b W (by omega) hb.2 (by rw [hp]; omega)
        obtain rfl := HM.out rfl
        clear hp HM HD
        go_wp2_with fail
        ((with_reducible refine (ft _).mono ?_); rintro e w2 ⟨rfl, rfl⟩)
        clear ft
        go_wp2_with fail
        go_ret2
        exact ⟨rfl, rfl⟩
  · have sz := fun W => sized_no_s bits W h1
    have r1 : rkE n bits = 0 := by unfold rkE; rw [if_neg h1]
    have r2 : rkM n bits = 0 := by unfold rkM; rw [if_neg h1]
    rw [r1, r2]
    clear r1 r2 h1
    go_enter Try.func80, Try.ntmps80
    go_wp2_with fail
    ((with_reducible refine (sz _).mono ?_); rintro e w1 ⟨rfl, rfl⟩)
    clear sz
    go_wp2_with fail
    go_ret2
    exact ⟨rfl, rfl⟩
set_option maxRecDepth 100000 in
theorem rate_open_s (exp : Int) (man : Nat) (bits : Int) (w : World) (hm : man < 4294967296) :
    Calls Try.prog 82 #[.int .i64 exp, .int .u32 (man : Int), .int .i64 bits] w (AnsS (.int .u64 (opR exp man bits : Int)) w) := by
  by_cases h1 : 1 ≤ bits ∧ bits ≤ 24
  · have sz := fun W => sized_yes_s bits W h1
    by_cases h3 : exp < 0
    · rw [opR_no (by omega)]
      clear h1 hm
      go_enter Try.func82, Try.ntmps82
      go_wp2_with fail
      ((with_reducible refine (sz _).mono ?_); rintro e w1 ⟨rfl, rfl⟩)
      clear sz
      go_wp2_with fail
      go_ret
      exact ⟨rfl, rfl⟩
    by_cases h4 : 63 < exp
    · rw [opR_no (by omega)]
      clear h1 hm
      go_enter Try.func82, Try.ntmps82
      go_wp2_with fail
      ((with_reducible refine (sz _).mono ?_); rintro e w1 ⟨rfl, rfl⟩)
      clear sz
      go_wp2_with fail
      go_ret
      exact ⟨rfl, rfl⟩
    obtain ⟨b, rfl⟩ : ∃ b : Nat, bits = (b : Int) := ⟨bits.toNat, by omega⟩
    obtain ⟨e, rfl⟩ : ∃ e : Nat, exp = (e : Int) := ⟨exp.toNat, by omega⟩
    have hbb : 1 ≤ b ∧ b ≤ 24 := by omega
    have hee : e ≤ 63 := by omega
    have d1 : decide ((e : Int) < 0) = false := by simp
    have d2 : decide (63 < (e : Int)) = false := by simp; omega
    have mn : min e 64 = e := by omega
    clear h1 h3 h4
    by_cases h5 : man < 2 ^ b
    · have ft := fun W => fits_yes_s man b W (by omega) hbb.2 h5
      have hin : opR e man b = opN e man := by unfold opR; exact if_pos ⟨by omega, by omega, h5⟩
      rw [hin]
      clear hin
      have hfit : man * 2 ^ e < 2 ^ 64 ↔ man ≤ 18446744073709551615 / 2 ^ e := by
        rw [Nat.le_div_iff_mul_le (Nat.two_pow_pos _)]
        omega
      have sh := sh64 man e
      have dv := dv_pow 18446744073709551615 e
      have SH := Lib.hid sh
      clear sh h5
      by_cases h6 : man * 2 ^ e < 2 ^ 64
      · rw [op_fits h6]
        have d : decide ((18446744073709551615 : Int) / 2 ^ e < (man : Int)) = false := by
          have h7 := hfit.1 h6
          have h8 : (18446744073709551615 : Int) / 2 ^ e = ((18446744073709551615 / 2 ^ e : Nat) : Int) := dv
          rw [h8]
          simp only [decide_eq_false_iff_not]
          omega
        have HM := Lib.hid (Nat.mod_eq_of_lt h6)
        clear hfit dv h6
        go_enter Try.func82, Try.ntmps82
        go_wp2_with fail
        ((with_reducible refine (sz _).mono ?_); rintro e w1 ⟨rfl, rfl⟩)
        go_wp2_with fail
        ((with_reducible refine (ft _).mono ?_); rintro e w2 ⟨rfl, rfl⟩)
        clear sz ft
        go_wp2_with fail
        go_ret
        refine ⟨?_, rfl⟩
        rw [← HM.out, ← SH.out]
        rfl
      · rw [op_over h6]
        have d : decide ((18446744073709551615 : Int) / 2 ^ e < (man : Int)) = true := by
          have h7 := mt hfit.2 h6
          have h8 : (18446744073709551615 : Int) / 2 ^ e = ((18446744073709551615 / 2 ^ e : Nat) : Int) := dv
          rw [h8]
          simp only [decide_eq_true_eq]
          omega
        clear hfit dv h6 SH
        go_enter Try.func82, Try.ntmps82
        go_wp2_with fail
        ((with_reducible refine (sz _).mono ?_); rintro e w1 ⟨rfl, rfl⟩)
        go_wp2_with fail
        ((with_reducible refine (ft _).mono ?_); rintro e w2 ⟨rfl, rfl⟩)
        clear sz ft
        go_wp2_with fail
        go_ret
        exact ⟨rfl, rfl⟩
    · have ft := fun W => fits_no_s man b W (by omega) hbb.2 h5
      rw [opR_no (fun h => h5 h.2.2)]
      clear h5 mn
      go_enter Try.func82, Try.ntmps82
      go_wp2_with fail
      ((with_reducible refine (sz _).mono ?_); rintro e w1 ⟨rfl, rfl⟩)
      go_wp2_with fail
      ((with_reducible refine (ft _).mono ?_); rintro e w2 ⟨rfl, rfl⟩)
      clear sz ft
      go_wp2_with fail
      go_ret
      exact ⟨rfl, rfl⟩
  · have sz := fun W => sized_no_s bits W h1
    rw [opR_no (by omega)]
    clear h1 hm
    go_enter Try.func82, Try.ntmps82
    go_wp2_with fail
    ((with_reducible refine (sz _).mono ?_); rintro e w1 ⟨rfl, rfl⟩)
    clear sz
    go_wp2_with fail
    go_ret
    exact ⟨rfl, rfl⟩
theorem rate_down_s (n : Nat) (bits : Int) (w : World) (hn : n < 18446744073709551616) :
    Calls Try.prog 77 #[.int .u64 (n : Int), .int .i64 bits] w (AnsS (.int .u64 (dnR n bits : Int)) w) := by
  have q1 := rate_pack_s n bits w hn
  have h1 := rkE_small hn bits
  have q2 := fun W => rate_open_s (rkE n bits) (rkM n bits) bits W (by have := rkM_small n bits; omega)
  unfold dnR
  generalize opR (rkE n bits) (rkM n bits) bits = D at q2 ⊢
  generalize rkE n bits = E at q1 q2 h1
  generalize rkM n bits = M at q1 q2
  go_enter Try.func77, Try.ntmps77
  go_wp2_with fail
  refine q1.mono ?_
  rintro e w1 ⟨rfl, rfl⟩
  go_wp2_with fail
  refine (q2 _).mono ?_
  rintro e w2 ⟨rfl, rfl⟩
  clear q1 q2
  go_wp2_with fail
  go_ret
  exact ⟨rfl, rfl⟩
end Go.Proofs.Ytnchgmemajmkjaa
namespace Go.Proofs.Ytnchgmemajmkjaa
open Go.RowKit
set_option linter.unusedVariables false
set_option linter.unusedSimpArgs false
set_option maxRecDepth 20000

/-- What follows a report's head, as words. -/
def Rep.ws (r : Rep) : List Nat :=
  if r.kind = 1 ∨ r.kind = 2 then r.src :: 0 :: r.tups.flatMap (fun t => [t.owner, t.word])
  else if r.kind = 4 then r.src :: 0 :: (r.abouts.zip r.nums).flatMap (fun x => [x.1, x.2.toNat * 16777216])
  else if r.kind = 5 then [r.src, 0, 1380273474, rembW r.abouts.length r.rate] ++ r.abouts
  else [r.src, r.about]
theorem wB_app (l m : List Nat) : wB (l ++ m) = wB l ++ wB m := by simp [wB]
theorem wB_flat {α : Type} (f : α → List Nat) (l : List α) : wB (l.flatMap f) = l.flatMap (fun x => wB (f x)) := by
  induction l with
  | nil => rfl
  | cons x r ih => rw [List.flatMap_cons, wB_app, ih, List.flatMap_cons]
theorem Rep.tail_ws {r : Rep} (hk : 1 ≤ r.kind ∧ r.kind ≤ 5) : r.tail = wB r.ws := by
  have hc : r.kind = 1 ∨ r.kind = 2 ∨ r.kind = 3 ∨ r.kind = 4 ∨ r.kind = 5 := by omega
  unfold Rep.tail Rep.ws
  have ht : r.tups.flatMap Tup.bytes = wB (r.tups.flatMap (fun t => [t.owner, t.word])) := by
    rw [wB_flat]
    exact congrArg (fun f => r.tups.flatMap f) (funext Tup.bytes_w)
  have hf : ((r.abouts.zip r.nums).flatMap fun x => be x.1 4 ++ be (x.2.toNat * 16777216) 4) = wB ((r.abouts.zip r.nums).flatMap (fun x => [x.1, x.2.toNat * 16777216])) := by
    rw [wB_flat]
    exact congrArg (fun f => (r.abouts.zip r.nums).flatMap f) (funext fun x => by simp [wB])
  have hm : be 1380273474 4 = [82, 69, 77, 66] := by decide
  rcases hc with h | h | h | h | h
  · rw [if_pos (by omega), if_pos (by omega), ht]; rfl
  · rw [if_pos (by omega), if_pos (by omega), ht]; rfl
  · rw [if_neg (by omega), if_pos h, if_neg (by omega), if_neg (by omega), if_neg (by omega)]; simp [wB]
  · rw [if_neg (by omega), if_neg (by omega), if_pos h, if_neg (by omega), if_pos h, hf]; rfl
  · rw [if_neg (by omega), if_neg (by omega), if_neg (by omega), if_pos h, if_neg (by omega), if_neg (by omega), if_pos h]
    simp [wB, hm, rembW]
def WordsOut (w : World) (l : List Nat) (e : Ending) (w' : World) : Prop := ∃ A c, e = .returned (.slice A l.length c) ∧ R32 w' w'.heap.size A l.length c l ∧ Below w.heap.size w w'
theorem own32_kept {a b : World} {B : Nat} {v : Value} {l : List Nat} (h : Own32 a B v l) (hb : Below a.heap.size a b) : Own32 b B v l :=
  World.ownsRow.kept (row := none) h ⟨hb.os, hb.tape, hb.output, hb.size, fun k hk _ => hb.block k hk⟩ (by cases hv : v.ownBlock <;> simp)
theorem own32_base {w : World} {b b' : Nat} {v : Value} {l : List Nat} (h : Own32 w b v l) (hb : b' ≤ b) : Own32 w b' v l := World.ownsRow.mono h hb
/-- A literal of words is a row that the call owns. -/
theorem own32_lits (w : World) (base : Nat) (l : List Nat) (cs : Array Value) (n : Nat) (hn : l.length = n) (h : (l.map wv).toArray = cs) (hm : n ≤ 1000) (hb : base ≤ w.heap.size) : Own32 (w.alloc (.cells cs 27)) base (.slice (some ⟨w.heap.size, 0, none⟩) n n) l := by
  subst h hn
  exact ⟨by simp, .inr ⟨w.heap.size, l.length, _, rfl, hb, Blk.new _ _ _, Nat.le_refl _, by unfold maxLen; omega, by simp, by rw [Nat.mul_one]; exact List.take_of_length_le (by simp)⟩⟩
theorem lit2_r32 (a b : Nat) (x y : Int) (hx : x = (a : Int)) (hy : y = (b : Int)) (ha : a < 4294967296) (hb : b < 4294967296) (V : World) (g : Nat) (hg : g = V.heap.size) :
    R32 (V.alloc (.cells #[.int .u32 x, .int .u32 y] 27)) (V.alloc (.cells #[.int .u32 x, .int .u32 y] 27)).heap.size (some ⟨g, 0, none⟩) 2 2 [a, b] := by
  subst hx hy
  exact lit_r32 [a, b] _ 2 g V hg rfl rfl (by intro z hz; simp at hz; omega)
theorem tupw_take {l : List Tup} {q : Nat} (h : q < l.length) : (l.take q).flatMap (fun t => [t.owner, t.word]) ++ [l[q].owner, l[q].word] = (l.take (q + 1)).flatMap (fun t => [t.owner, t.word]) := by
  rw [List.take_add_one, List.flatMap_append, List.getElem?_eq_getElem h]
  simp
theorem firw_take {l : List Nat} {m : List Int} {q : Nat} (h : q < l.length) (h' : q < m.length) : ((l.zip m).take q).flatMap (fun x => [x.1, x.2.toNat * 16777216]) ++ [l[q], m[q].toNat * 16777216] = ((l.zip m).take (q + 1)).flatMap (fun x => [x.1, x.2.toNat * 16777216]) := by
  rw [List.take_add_one, List.flatMap_append, List.getElem?_eq_getElem (by simp; omega)]
  simp
set_option maxHeartbeats 4000000 in
theorem words_1 (x : Rv) (w : World) (hx : IsR w w.heap.size x) (hk : x.r.kind = 1) (hok : tupsOk x.r.tups = true) : Calls Try.prog 61 #[x.val] w (WordsOut w x.r.ws) := by
  have hws : x.r.ws = x.r.src :: 0 :: x.r.tups.flatMap (fun t => [t.owner, t.word]) := by unfold Rep.ws; rw [hk]; rfl
  rw [hws]
  clear hws
  obtain ⟨⟨kind, src, about, tups, abouts, nums, rate, ty, count, body⟩, At, ct, Aa, ca, An, cn, Ab, cb⟩ := x
  obtain ⟨t1, t2, t3, t4, kinds⟩ := hx
  obtain ⟨h1, h2, h3, h4, h5, h6, h7, h8, h9, h10⟩ := kinds
  simp only at hk h1 h2 h3 h4 h5 h6 h7 h8 h9 h10 t1 t2 t3 t4
  subst hk
  have hb : Below w.heap.size w (w.alloc (.cells #[.int .i64 1, .int .u32 (src : Int), .int .u32 (about : Int), .slice At tups.length ct, .slice Aa abouts.length ca, .slice An nums.length cn, .int .u64 (rate : Int), .int .i64 ty, .int .i64 count, .slice Ab body.length cb] 33)) := (Below.refl _ w).alloc (Nat.le_refl _) _
  have hZ : Blk (w.alloc (.cells #[.int .i64 1, .int .u32 (src : Int), .int .u32 (about : Int), .slice At tups.length ct, .slice Aa abouts.length ca, .slice An nums.length cn, .int .u64 (rate : Int), .int .i64 ty, .int .i64 count, .slice Ab body.length cb] 33)) w.heap.size 33 #[.int .i64 1, .int .u32 (src : Int), .int .u32 (about : Int), .slice At tups.length ct, .slice Aa abouts.length ca, .slice An nums.length cn, .int .u64 (rate : Int), .int .i64 ty, .int .i64 count, .slice Ab body.length cb] := Blk.new _ _ _
  have hsz : (w.alloc (.cells #[.int .i64 1, .int .u32 (src : Int), .int .u32 (about : Int), .slice At tups.length ct, .slice Aa abouts.length ca, .slice An nums.length cn, .int .u64 (rate : Int), .int .i64 ty, .int .i64 count, .slice Ab body.length cb] 33)).heap.size = w.heap.size + 1 := by simp
  simp only [Rv.val, Rv.cells]
  have hok : tupsOk tups = true := hok
  have hall : ∀ t ∈ tups, t.ok = true := by
    unfold tupsOk at hok
    rw [Bool.and_eq_true, List.all_eq_true] at hok
    exact hok.1
  have hle : tups.length ≤ 6 := by
    unfold tupsOk at hok
    rw [Bool.and_eq_true] at hok
    simpa using hok.2
  have t1 := t1.on hb
  clear t2 t3 t4 h3 h4 h5 h6 h7 h8 h9 h10 hok
  go_enter Try.func61, Try.ntmps61
  go_upto_region 4 with (fail)
  generalize (w.alloc (.cells #[.int .i64 1, .int .u32 (src : Int), .int .u32 (about : Int), .slice At tups.length ct, .slice Aa abouts.length ca, .slice An nums.length cn, .int .u64 (rate : Int), .int .i64 ty, .int .i64 count, .slice Ab body.length cb] 33)) = V at hb hZ hsz t1 ⊢
  obtain ⟨y0, y1, y2, y3, y4, y5, y6, y7, y8, y9⟩ := blk10 hZ
  have HS := Lib.hid hsz
  have hlt : w.heap.size < V.heap.size := by omega
  clear hsz
  clear y0 y2 y4 y5 y6 y7 y8 y9
  have o1 := own32_lits V V.heap.size [src, 0] #[.int .u32 (src : Int), .int .u32 0] 2 rfl rfl (by omega) (Nat.le_refl _)
  have b2 : Below V.heap.size V (V.alloc (.cells #[.int .u32 (src : Int), .int .u32 0] 27)) := (Below.refl _ V).alloc (Nat.le_refl _) _
  have z3 := (b2.cell (p := ⟨w.heap.size, 3, none⟩) hlt).trans y3
  go_upto_region 5 with (fail)
  generalize (V.alloc (.cells #[.int .u32 (src : Int), .int .u32 0] 27)) = V2 at o1 b2 z3 ⊢
  go_wp2_with fail
  clear z3 y1 y3
  go_loopw [3, 25] (fun v iv wr => ∃ q : Nat, q ≤ tups.length ∧ iv = .int .i64 (q : Int) ∧ Own32 wr V.heap.size v ([src, 0] ++ (tups.take q).flatMap (fun t => [t.owner, t.word])) ∧ Below V.heap.size V wr) (fun _ iv _ => tups.length - (intOf iv).toNat)
  case atStart => exact ⟨0, by omega, rfl, by simpa using o1, b2⟩
  case round =>
    obtain ⟨q, hq, rfl, ho, hbr⟩ := hrel
    clear o1 b2
    by_cases hql : q < tups.length
    · have g3 : decide ((q : Int) < (tups.length : Int)) = true := by simp; omega
      obtain ⟨b, off, rfl, hbl, k0, k1, k2⟩ := t1.at hql
      have c0 := (hbr.cell (p := ⟨b, off + q * 3, none⟩) hbl).trans k0
      have c1 := (hbr.cell (p := ⟨b, off + q * 3 + 1, none⟩) hbl).trans k1
      have c2 := (hbr.cell (p := ⟨b, off + q * 3 + 2, none⟩) hbl).trans k2
      have htk := tupw_take hql
      have hin := t1.2.1 _ (List.getElem_mem hql)
      have hok := hall _ (List.getElem_mem hql)
      have hlen : ([src, 0] ++ (tups.take q).flatMap (fun t => [t.owner, t.word])).length ≤ 100 := by
        rw [List.length_append, flat_length (k := 2) (fun _ => rfl), List.length_take]
        simp
        omega
      have htk : ([src, 0] ++ (tups.take q).flatMap (fun t => [t.owner, t.word])) ++ [tups[q].owner, tups[q].word] = [src, 0] ++ (tups.take (q + 1)).flatMap (fun t => [t.owner, t.word]) := by rw [List.append_assoc, htk]
      generalize [src, 0] ++ (tups.take q).flatMap (fun t => [t.owner, t.word]) = L at ho hlen htk
      have htk := Lib.hid htk
      clear k0 k1 k2 t1 hall
      generalize tups[q] = t at c0 c1 c2 htk hin hok
      obtain ⟨or, wlt, e63, m17⟩ := Tup.word_or hin.rate hok
      have o511 := Tup.ok_in hok
      have hpk : ∀ W, Calls Try.prog 80 #[.int .u64 (t.rate : Int), .int .i64 17] W (AnsS (.tuple #[.int .i64 (pkE t.rate 17 : Int), .int .u32 (pkM t.rate 17 : Int)]) W) := fun W => rate_pack_s t.rate 17 W hin.rate
      have OR := Lib.hid or
      have how := hin.owner
      clear or hin hok
      generalize t.word = wd at OR htk wlt
      generalize pkE t.rate 17 = E at *
      generalize pkM t.rate 17 = M at *
      have hs1 : V.heap.size ≤ wr.heap.size := hbr.size
      go_wp2_with fail
      ((with_reducible refine (hpk _).mono ?_); rintro e w3 ⟨rfl, rfl⟩)
      clear hpk c0 c1 c2
      have b5 : Below wr.heap.size wr ((wr.alloc (.cells #[.int .u32 (t.owner : Int), .int .u64 (t.rate : Int), .int .i64 t.over] 57)).alloc (.cells #[.int .u32 (t.owner : Int), .int .u32 (bits .or .u32 (bits .or .u32 ((E : Int) * 67108864) ((M : Int) * 512)) t.over)] 27)) := ((Below.refl _ wr).alloc (Nat.le_refl _) _).alloc (by simp) _
      have ho5 := own32_kept ho b5
      have r5 := lit2_r32 t.owner wd (t.owner : Int) (bits .or .u32 (bits .or .u32 ((E : Int) * 67108864) ((M : Int) * 512)) t.over) rfl OR.out how wlt (wr.alloc (.cells #[.int .u32 (t.owner : Int), .int .u64 (t.rate : Int), .int .i64 t.over] 57)) (wr.heap.size + 1) (by simp)
      have b6 := hbr.trans (b5.mono hs1)
      have hs6 := b6.size
      have HBB := Lib.hid (show L.length + 2 ≤ 1000000 by omega)
      clear ho hlen OR b5 hbr
      go_wp2_with (at_builtin; ((with_reducible refine wpList_append32 rfl (.tmp 35) (.tmp 48) rfl rfl V.heap.size _ L (by with_unfolding_all rfl) ho5 _ (some ⟨wr.heap.size + 1, 0, none⟩) 2 2 [t.owner, wd] (by with_unfolding_all rfl) r5 HBB.out hs6 ?_); rintro v7 w7 ⟨o7, g7⟩))
      have b7 := below_grown b6 hs6 g7 (fun k hk => (World.ownsRow.lt ho5 k hk).1)
      clear ho5 r5 b6 hs6 g7
      go_wp2_with fail
      go_roundw
      case rel => exact ⟨q + 1, by omega, by go_num, by rw [← htk.out]; exact o7, b7⟩
      case measure => simp [intOf]; omega
    · have g3 : decide ((q : Int) < (tups.length : Int)) = false := by simp; omega
      rw [List.take_of_length_le (by omega)] at ho
      have hsm : ∀ z ∈ [src, 0] ++ tups.flatMap (fun t => [t.owner, t.word]), z < 4294967296 := by
        intro z hz
        rcases List.mem_append.1 hz with hz | hz
        · simp at hz; omega
        · obtain ⟨t, ht, hz⟩ := List.mem_flatMap.1 hz
          have i1 := (t1.2.1 t ht).owner
          have i2 := (Tup.word_or (t1.2.1 t ht).rate (hall t ht)).2.1
          simp at hz
          omega
      obtain ⟨A1, c1, rfl, r1⟩ := ho.r32 hsm
      have b7 := hb.trans (hbr.mono hb.size)
      generalize hT : [src, 0] ++ tups.flatMap (fun t => [t.owner, t.word]) = T at r1
      have HT := Lib.hid hT
      clear t1 hall hsm hbr hT ho
      go_wp2_with fail
      go_ret
      refine ⟨A1, c1, ?_, ?_, b7⟩
      · rw [show src :: 0 :: tups.flatMap (fun t => [t.owner, t.word]) = T from HT.out]; rfl
      · rw [show src :: 0 :: tups.flatMap (fun t => [t.owner, t.word]) = T from HT.out]; exact r1
set_option maxHeartbeats 4000000 in
theorem words_2 (x : Rv) (w : World) (hx : IsR w w.heap.size x) (hk : x.r.kind = 2) (hok : tupsOk x.r.tups = true) : Calls Try.prog 61 #[x.val] w (WordsOut w x.r.ws) := by
  have hws : x.r.ws = x.r.src :: 0 :: x.r.tups.flatMap (fun t => [t.owner, t.word]) := by unfold Rep.ws; rw [hk]; rfl
  rw [hws]
  clear hws
  obtain ⟨⟨kind, src, about, tups, abouts, nums, rate, ty, count, body⟩, At, ct, Aa, ca, An, cn, Ab, cb⟩ := x
  obtain ⟨t1, t2, t3, t4, kinds⟩ := hx
  obtain ⟨h1, h2, h3, h4, h5, h6, h7, h8, h9, h10⟩ := kinds
  simp only at hk h1 h2 h3 h4 h5 h6 h7 h8 h9 h10 t1 t2 t3 t4
  subst hk
  have hb : Below w.heap.size w (w.alloc (.cells #[.int .i64 2, .int .u32 (src : Int), .int .u32 (about : Int), .slice At tups.length ct, .slice Aa abouts.length ca, .slice An nums.length cn, .int .u64 (rate : Int), .int .i64 ty, .int .i64 count, .slice Ab body.length cb] 33)) := (Below.refl _ w).alloc (Nat.le_refl _) _
  have hZ : Blk (w.alloc (.cells #[.int .i64 2, .int .u32 (src : Int), .int .u32 (about : Int), .slice At tups.length ct, .slice Aa abouts.length ca, .slice An nums.length cn, .int .u64 (rate : Int), .int .i64 ty, .int .i64 count, .slice Ab body.length cb] 33)) w.heap.size 33 #[.int .i64 2, .int .u32 (src : Int), .int .u32 (about : Int), .slice At tups.length ct, .slice Aa abouts.length ca, .slice An nums.length cn, .int .u64 (rate : Int), .int .i64 ty, .int .i64 count, .slice Ab body.length cb] := Blk.new _ _ _
  have hsz : (w.alloc (.cells #[.int .i64 2, .int .u32 (src : Int), .int .u32 (about : Int), .slice At tups.length ct, .slice Aa abouts.length ca, .slice An nums.length cn, .int .u64 (rate : Int), .int .i64 ty, .int .i64 count, .slice Ab body.length cb] 33)).heap.size = w.heap.size + 1 := by simp
  simp only [Rv.val, Rv.cells]
  have hok : tupsOk tups = true := hok
  have hall : ∀ t ∈ tups, t.ok = true := by
    unfold tupsOk at hok
    rw [Bool.and_eq_true, List.all_eq_true] at hok
    exact hok.1
  have hle : tups.length ≤ 6 := by
    unfold tupsOk at hok
    rw [Bool.and_eq_true] at hok
    simpa using hok.2
  have t1 := t1.on hb
  clear t2 t3 t4 h3 h4 h5 h6 h7 h8 h9 h10 hok
  go_enter Try.func61, Try.ntmps61
  go_upto_region 4 with (fail)
  generalize (w.alloc (.cells #[.int .i64 2, .int .u32 (src : Int), .int .u32 (about : Int), .slice At tups.length ct, .slice Aa abouts.length ca, .slice An nums.length cn, .int .u64 (rate : Int), .int .i64 ty, .int .i64 count, .slice Ab body.length cb] 33)) = V at hb hZ hsz t1 ⊢
  obtain ⟨y0, y1, y2, y3, y4, y5, y6, y7, y8, y9⟩ := blk10 hZ
  have HS := Lib.hid hsz
  have hlt : w.heap.size < V.heap.size := by omega
  clear hsz
  clear y0 y2 y4 y5 y6 y7 y8 y9
  have o1 := own32_lits V V.heap.size [src, 0] #[.int .u32 (src : Int), .int .u32 0] 2 rfl rfl (by omega) (Nat.le_refl _)
  have b2 : Below V.heap.size V (V.alloc (.cells #[.int .u32 (src : Int), .int .u32 0] 27)) := (Below.refl _ V).alloc (Nat.le_refl _) _
  have z3 := (b2.cell (p := ⟨w.heap.size, 3, none⟩) hlt).trans y3
  go_upto_region 5 with (fail)
  generalize (V.alloc (.cells #[.int .u32 (src : Int), .int .u32 0] 27)) = V2 at o1 b2 z3 ⊢
  go_wp2_with fail
  clear z3 y1 y3
  go_loopw [3, 25] (fun v iv wr => ∃ q : Nat, q ≤ tups.length ∧ iv = .int .i64 (q : Int) ∧ Own32 wr V.heap.size v ([src, 0] ++ (tups.take q).flatMap (fun t => [t.owner, t.word])) ∧ Below V.heap.size V wr) (fun _ iv _ => tups.length - (intOf iv).toNat)
  case atStart => exact ⟨0, by omega, rfl, by simpa using o1, b2⟩
  case round =>
    obtain ⟨q, hq, rfl, ho, hbr⟩ := hrel
    clear o1 b2
    by_cases hql : q < tups.length
    · have g3 : decide ((q : Int) < (tups.length : Int)) = true := by simp; omega
      obtain ⟨b, off, rfl, hbl, k0, k1, k2⟩ := t1.at hql
      have c0 := (hbr.cell (p := ⟨b, off + q * 3, none⟩) hbl).trans k0
      have c1 := (hbr.cell (p := ⟨b, off + q * 3 + 1, none⟩) hbl).trans k1
      have c2 := (hbr.cell (p := ⟨b, off + q * 3 + 2, none⟩) hbl).trans k2
      have htk := tupw_take hql
      have hin := t1.2.1 _ (List.getElem_mem hql)
      have hok := hall _ (List.getElem_mem hql)
      have hlen : ([src, 0] ++ (tups.take q).flatMap (fun t => [t.owner, t.word])).length ≤ 100 := by
        rw [List.length_append, flat_length (k := 2) (fun _ => rfl), List.length_take]
        simp
        omega
      have htk : ([src, 0] ++ (tups.take q).flatMap (fun t => [t.owner, t.word])) ++ [tups[q].owner, tups[q].word] = [src, 0] ++ (tups.take (q + 1)).flatMap (fun t => [t.owner, t.word]) := by rw [List.append_assoc, htk]
      generalize [src, 0] ++ (tups.take q).flatMap (fun t => [t.owner, t.word]) = L at ho hlen htk
      have htk := Lib.hid htk
      clear k0 k1 k2 t1 hall
      generalize tups[q] = t at c0 c1 c2 htk hin hok
      obtain ⟨or, wlt, e63, m17⟩ := Tup.word_or hin.rate hok
      have o511 := Tup.ok_in hok
      have hpk : ∀ W, Calls Try.prog 80 #[.int .u64 (t.rate : Int), .int .i64 17] W (AnsS (.tuple #[.int .i64 (pkE t.rate 17 : Int), .int .u32 (pkM t.rate 17 : Int)]) W) := fun W => rate_pack_s t.rate 17 W hin.rate
      have OR := Lib.hid or
      have how := hin.owner
      clear or hin hok
      generalize t.word = wd at OR htk wlt
      generalize pkE t.rate 17 = E at *
      generalize pkM t.rate 17 = M at *
      have hs1 : V.heap.size ≤ wr.heap.size := hbr.size
      go_wp2_with fail
      ((with_reducible refine (hpk _).mono ?_); rintro e w3 ⟨rfl, rfl⟩)
      clear hpk c0 c1 c2
      have b5 : Below wr.heap.size wr ((wr.alloc (.cells #[.int .u32 (t.owner : Int), .int .u64 (t.rate : Int), .int .i64 t.over] 57)).alloc (.cells #[.int .u32 (t.owner : Int), .int .u32 (bits .or .u32 (bits .or .u32 ((E : Int) * 67108864) ((M : Int) * 512)) t.over)] 27)) := ((Below.refl _ wr).alloc (Nat.le_refl _) _).alloc (by simp) _
      have ho5 := own32_kept ho b5
      have r5 := lit2_r32 t.owner wd (t.owner : Int) (bits .or .u32 (bits .or .u32 ((E : Int) * 67108864) ((M : Int) * 512)) t.over) rfl OR.out how wlt (wr.alloc (.cells #[.int .u32 (t.owner : Int), .int .u64 (t.rate : Int), .int .i64 t.over] 57)) (wr.heap.size + 1) (by simp)
      have b6 := hbr.trans (b5.mono hs1)
      have hs6 := b6.size
      have HBB := Lib.hid (show L.length + 2 ≤ 1000000 by omega)
      clear ho hlen OR b5 hbr
      go_wp2_with (at_builtin; ((with_reducible refine wpList_append32 rfl (.tmp 35) (.tmp 48) rfl rfl V.heap.size _ L (by with_unfolding_all rfl) ho5 _ (some ⟨wr.heap.size + 1, 0, none⟩) 2 2 [t.owner, wd] (by with_unfolding_all rfl) r5 HBB.out hs6 ?_); rintro v7 w7 ⟨o7, g7⟩))
      have b7 := below_grown b6 hs6 g7 (fun k hk => (World.ownsRow.lt ho5 k hk).1)
      clear ho5 r5 b6 hs6 g7
      go_wp2_with fail
      go_roundw
      case rel => exact ⟨q + 1, by omega, by go_num, by rw [← htk.out]; exact o7, b7⟩
      case measure => simp [intOf]; omega
    · have g3 : decide ((q : Int) < (tups.length : Int)) = false := by simp; omega
      rw [List.take_of_length_le (by omega)] at ho
      have hsm : ∀ z ∈ [src, 0] ++ tups.flatMap (fun t => [t.owner, t.word]), z < 4294967296 := by
        intro z hz
        rcases List.mem_append.1 hz with hz | hz
        · simp at hz; omega
        · obtain ⟨t, ht, hz⟩ := List.mem_flatMap.1 hz
          have i1 := (t1.2.1 t ht).owner
          have i2 := (Tup.word_or (t1.2.1 t ht).rate (hall t ht)).2.1
          simp at hz
          omega
      obtain ⟨A1, c1, rfl, r1⟩ := ho.r32 hsm
      have b7 := hb.trans (hbr.mono hb.size)
      generalize hT : [src, 0] ++ tups.flatMap (fun t => [t.owner, t.word]) = T at r1
      have HT := Lib.hid hT
      clear t1 hall hsm hbr hT ho
      go_wp2_with fail
      go_ret
      refine ⟨A1, c1, ?_, ?_, b7⟩
      · rw [show src :: 0 :: tups.flatMap (fun t => [t.owner, t.word]) = T from HT.out]; rfl
      · rw [show src :: 0 :: tups.flatMap (fun t => [t.owner, t.word]) = T from HT.out]; exact r1
set_option maxHeartbeats 4000000 in
theorem words_3 (x : Rv) (w : World) (hx : IsR w w.heap.size x) (hk : x.r.kind = 3) : Calls Try.prog 61 #[x.val] w (WordsOut w x.r.ws) := by
  have hws : x.r.ws = [x.r.src, x.r.about] := by unfold Rep.ws; rw [hk]; rfl
  rw [hws]
  clear hws
  obtain ⟨⟨kind, src, about, tups, abouts, nums, rate, ty, count, body⟩, At, ct, Aa, ca, An, cn, Ab, cb⟩ := x
  obtain ⟨t1, t2, t3, t4, kinds⟩ := hx
  obtain ⟨h1, h2, h3, h4, h5, h6, h7, h8, h9, h10⟩ := kinds
  simp only at hk h1 h2 h3 h4 h5 h6 h7 h8 h9 h10 t1 t2 t3 t4
  subst hk
  have hb : Below w.heap.size w (w.alloc (.cells #[.int .i64 3, .int .u32 (src : Int), .int .u32 (about : Int), .slice At tups.length ct, .slice Aa abouts.length ca, .slice An nums.length cn, .int .u64 (rate : Int), .int .i64 ty, .int .i64 count, .slice Ab body.length cb] 33)) := (Below.refl _ w).alloc (Nat.le_refl _) _
  have hZ : Blk (w.alloc (.cells #[.int .i64 3, .int .u32 (src : Int), .int .u32 (about : Int), .slice At tups.length ct, .slice Aa abouts.length ca, .slice An nums.length cn, .int .u64 (rate : Int), .int .i64 ty, .int .i64 count, .slice Ab body.length cb] 33)) w.heap.size 33 #[.int .i64 3, .int .u32 (src : Int), .int .u32 (about : Int), .slice At tups.length ct, .slice Aa abouts.length ca, .slice An nums.length cn, .int .u64 (rate : Int), .int .i64 ty, .int .i64 count, .slice Ab body.length cb] := Blk.new _ _ _
  have hsz : (w.alloc (.cells #[.int .i64 3, .int .u32 (src : Int), .int .u32 (about : Int), .slice At tups.length ct, .slice Aa abouts.length ca, .slice An nums.length cn, .int .u64 (rate : Int), .int .i64 ty, .int .i64 count, .slice Ab body.length cb] 33)).heap.size = w.heap.size + 1 := by simp
  simp only [Rv.val, Rv.cells]
  clear t1 t2 t3 t4 h1 h4 h5 h6 h7 h8 h9 h10
  go_enter Try.func61, Try.ntmps61
  go_upto_region 24 with (fail)
  generalize (w.alloc (.cells #[.int .i64 3, .int .u32 (src : Int), .int .u32 (about : Int), .slice At tups.length ct, .slice Aa abouts.length ca, .slice An nums.length cn, .int .u64 (rate : Int), .int .i64 ty, .int .i64 count, .slice Ab body.length cb] 33)) = V at hb hZ hsz  ⊢
  obtain ⟨y0, y1, y2, y3, y4, y5, y6, y7, y8, y9⟩ := blk10 hZ
  have HS := Lib.hid hsz
  have hlt : w.heap.size < V.heap.size := by omega
  clear hsz
  have b2 : Below V.heap.size V (V.alloc (.cells #[.int .u32 (src : Int), .int .u32 (about : Int)] 27)) := (Below.refl _ V).alloc (Nat.le_refl _) _
  have r2 := lit2_r32 src about (src : Int) (about : Int) rfl rfl h2 h3 V V.heap.size rfl
  go_wp2_with fail
  go_ret
  exact ⟨_, _, rfl, r2, hb.trans (b2.mono hb.size)⟩
set_option maxHeartbeats 4000000 in
theorem words_4 (x : Rv) (w : World) (hx : IsR w w.heap.size x) (hk : x.r.kind = 4) (hl0 : x.r.abouts.length = x.r.nums.length) (hle0 : x.r.abouts.length ≤ 16) (hnn0 : ∀ n ∈ x.r.nums, 0 ≤ n ∧ n ≤ 255) : Calls Try.prog 61 #[x.val] w (WordsOut w x.r.ws) := by
  have hws : x.r.ws = x.r.src :: 0 :: (x.r.abouts.zip x.r.nums).flatMap (fun x => [x.1, x.2.toNat * 16777216]) := by unfold Rep.ws; rw [hk]; rfl
  rw [hws]
  clear hws
  obtain ⟨⟨kind, src, about, tups, abouts, nums, rate, ty, count, body⟩, At, ct, Aa, ca, An, cn, Ab, cb⟩ := x
  obtain ⟨t1, t2, t3, t4, kinds⟩ := hx
  obtain ⟨h1, h2, h3, h4, h5, h6, h7, h8, h9, h10⟩ := kinds
  simp only at hk h1 h2 h3 h4 h5 h6 h7 h8 h9 h10 t1 t2 t3 t4
  subst hk
  have hb : Below w.heap.size w (w.alloc (.cells #[.int .i64 4, .int .u32 (src : Int), .int .u32 (about : Int), .slice At tups.length ct, .slice Aa abouts.length ca, .slice An nums.length cn, .int .u64 (rate : Int), .int .i64 ty, .int .i64 count, .slice Ab body.length cb] 33)) := (Below.refl _ w).alloc (Nat.le_refl _) _
  have hZ : Blk (w.alloc (.cells #[.int .i64 4, .int .u32 (src : Int), .int .u32 (about : Int), .slice At tups.length ct, .slice Aa abouts.length ca, .slice An nums.length cn, .int .u64 (rate : Int), .int .i64 ty, .int .i64 count, .slice Ab body.length cb] 33)) w.heap.size 33 #[.int .i64 4, .int .u32 (src : Int), .int .u32 (about : Int), .slice At tups.length ct, .slice Aa abouts.length ca, .slice An nums.length cn, .int .u64 (rate : Int), .int .i64 ty, .int .i64 count, .slice Ab body.length cb] := Blk.new _ _ _
  have hsz : (w.alloc (.cells #[.int .i64 4, .int .u32 (src : Int), .int .u32 (about : Int), .slice At tups.length ct, .slice Aa abouts.length ca, .slice An nums.length cn, .int .u64 (rate : Int), .int .i64 ty, .int .i64 count, .slice Ab body.length cb] 33)).heap.size = w.heap.size + 1 := by simp
  simp only [Rv.val, Rv.cells]
  have hl : abouts.length = nums.length := hl0
  have hle : abouts.length ≤ 16 := hle0
  have hnn : ∀ n ∈ nums, 0 ≤ n ∧ n ≤ 255 := hnn0
  clear hl0 hle0 hnn0
  have HLN := Lib.hid hl
  have t2 := t2.on hb
  have t3 := t3.on hb
  clear t1 t4 h3 h4 h5 h6 h7 h8 h9 h10 hl
  go_enter Try.func61, Try.ntmps61
  go_upto_region 13 with (fail)
  generalize (w.alloc (.cells #[.int .i64 4, .int .u32 (src : Int), .int .u32 (about : Int), .slice At tups.length ct, .slice Aa abouts.length ca, .slice An nums.length cn, .int .u64 (rate : Int), .int .i64 ty, .int .i64 count, .slice Ab body.length cb] 33)) = V at hb hZ hsz t2 t3 ⊢
  obtain ⟨y0, y1, y2, y3, y4, y5, y6, y7, y8, y9⟩ := blk10 hZ
  have HS := Lib.hid hsz
  have hlt : w.heap.size < V.heap.size := by omega
  clear hsz
  clear y0 y2 y3 y6 y7 y8 y9
  have o1 := own32_lits V V.heap.size [src, 0] #[.int .u32 (src : Int), .int .u32 0] 2 rfl rfl (by omega) (Nat.le_refl _)
  have b2 : Below V.heap.size V (V.alloc (.cells #[.int .u32 (src : Int), .int .u32 0] 27)) := (Below.refl _ V).alloc (Nat.le_refl _) _
  have z4 := (b2.cell (p := ⟨w.heap.size, 4, none⟩) hlt).trans y4
  go_upto_region 14 with (fail)
  generalize (V.alloc (.cells #[.int .u32 (src : Int), .int .u32 0] 27)) = V2 at o1 b2 z4 ⊢
  go_wp2_with fail
  clear z4 y1 y4
  go_loopw [8, 60] (fun v iv wr => ∃ q : Nat, q ≤ abouts.length ∧ iv = .int .i64 (q : Int) ∧ Own32 wr V.heap.size v ([src, 0] ++ ((abouts.zip nums).take q).flatMap (fun x => [x.1, x.2.toNat * 16777216])) ∧ Below V.heap.size V wr) (fun _ iv _ => abouts.length - (intOf iv).toNat)
  case atStart => exact ⟨0, by omega, rfl, by simpa using o1, b2⟩
  case round =>
    obtain ⟨q, hq, rfl, ho, hbr⟩ := hrel
    clear o1 b2
    by_cases hql : q < abouts.length
    · have g3 : decide ((q : Int) < (abouts.length : Int)) = true := by simp; omega
      have g4 : (q : Int) < (abouts.length : Int) := by omega
      have g5 : (q : Int) < (nums.length : Int) := by have := HLN.out; omega
      have hqn : q < nums.length := by have := HLN.out; omega
      have htk := firw_take hql hqn
      have hxa := t2.2.2.1 _ (List.getElem_mem hql)
      have hxn := hnn _ (List.getElem_mem hqn)
      obtain ⟨b, off, rfl, hbl, k0⟩ := t2.at hql
      obtain ⟨b', off', rfl, hbl', k1⟩ := t3.at hqn
      have c0 := (hbr.cell (p := ⟨b, off + q, none⟩) hbl).trans k0
      have c1 := (hbr.cell (p := ⟨b', off' + q, none⟩) hbl').trans k1
      have c5 := (hbr.cell (p := ⟨w.heap.size, 5, none⟩) hlt).trans y5
      have hs1 := hbr.size
      have hlen : ([src, 0] ++ ((abouts.zip nums).take q).flatMap (fun x => [x.1, x.2.toNat * 16777216])).length ≤ 100 := by
        rw [List.length_append, flat_length (k := 2) (fun _ => rfl), List.length_take]
        simp
        omega
      have htk : ([src, 0] ++ ((abouts.zip nums).take q).flatMap (fun x => [x.1, x.2.toNat * 16777216])) ++ [abouts[q], nums[q].toNat * 16777216] = [src, 0] ++ ((abouts.zip nums).take (q + 1)).flatMap (fun x => [x.1, x.2.toNat * 16777216]) := by rw [List.append_assoc, htk]
      generalize [src, 0] ++ ((abouts.zip nums).take q).flatMap (fun x => [x.1, x.2.toNat * 16777216]) = L at ho hlen htk
      have htk := Lib.hid htk
      clear k0 k1 t2 t3 hnn y5
      generalize abouts[q] = a at c0 htk hxa
      generalize nums[q] = n at c1 htk hxn
      obtain ⟨n, rfl⟩ : ∃ m : Nat, n = (m : Int) := ⟨n.toNat, by omega⟩
      rw [show ((n : Int)).toNat = n from rfl] at htk
      have b5 : Below wr.heap.size wr (wr.alloc (.cells #[.int .u32 (a : Int), .int .u32 ((n : Int) * 16777216)] 27)) := (Below.refl _ wr).alloc (Nat.le_refl _) _
      have ho5 := own32_kept ho b5
      have r5 := lit2_r32 a (n * 16777216) (a : Int) ((n : Int) * 16777216) rfl (by simp) hxa (by omega) wr wr.heap.size rfl
      have b6 := hbr.trans (b5.mono hs1)
      have hs6 := b6.size
      have HBB := Lib.hid (show L.length + 2 ≤ 1000000 by omega)
      clear ho hlen b5 hbr
      go_wp2_with (at_builtin; ((with_reducible refine wpList_append32 rfl (.tmp 65) (.tmp 74) rfl rfl V.heap.size _ L (by with_unfolding_all rfl) ho5 _ (some ⟨wr.heap.size, 0, none⟩) 2 2 [a, n * 16777216] (by with_unfolding_all rfl) r5 HBB.out hs6 ?_); rintro v7 w7 ⟨o7, g7⟩))
      have b7 := below_grown b6 hs6 g7 (fun k hk => (World.ownsRow.lt ho5 k hk).1)
      clear ho5 r5 b6 hs6 g7 c0 c1 c5
      go_wp2_with fail
      go_roundw
      case rel => exact ⟨q + 1, by omega, by go_num, by rw [← htk.out]; exact o7, b7⟩
      case measure => simp [intOf]; omega
    · have g3 : decide ((q : Int) < (abouts.length : Int)) = false := by simp; omega
      rw [List.take_of_length_le (by simp; omega)] at ho
      have hsm : ∀ z ∈ [src, 0] ++ (abouts.zip nums).flatMap (fun x => [x.1, x.2.toNat * 16777216]), z < 4294967296 := by
        intro z hz
        rcases List.mem_append.1 hz with hz | hz
        · simp at hz; omega
        · obtain ⟨p, hp, hz⟩ := List.mem_flatMap.1 hz
          have i1 := t2.2.2.1 _ (List.of_mem_zip (a := p.1) (b := p.2) hp).1
          have i2 := hnn _ (List.of_mem_zip (a := p.1) (b := p.2) hp).2
          simp at hz
          omega
      obtain ⟨A1, c1, rfl, r1⟩ := ho.r32 hsm
      have b7 := hb.trans (hbr.mono hb.size)
      generalize hT : [src, 0] ++ (abouts.zip nums).flatMap (fun x => [x.1, x.2.toNat * 16777216]) = T at r1
      have HT := Lib.hid hT
      clear t2 t3 hnn hsm hbr hT ho y5
      go_wp2_with fail
      go_ret
      refine ⟨A1, c1, ?_, ?_, b7⟩
      · rw [show src :: 0 :: (abouts.zip nums).flatMap (fun x => [x.1, x.2.toNat * 16777216]) = T from HT.out]; rfl
      · rw [show src :: 0 :: (abouts.zip nums).flatMap (fun x => [x.1, x.2.toNat * 16777216]) = T from HT.out]; exact r1
set_option maxHeartbeats 4000000 in
theorem words_5 (x : Rv) (w : World) (hx : IsR w w.heap.size x) (hk : x.r.kind = 5) (hle : x.r.abouts.length ≤ 16) : Calls Try.prog 61 #[x.val] w (WordsOut w x.r.ws) := by
  have hws : x.r.ws = [x.r.src, 0, 1380273474, rembW x.r.abouts.length x.r.rate] ++ x.r.abouts := by unfold Rep.ws; rw [hk]; rfl
  rw [hws]
  clear hws
  obtain ⟨⟨kind, src, about, tups, abouts, nums, rate, ty, count, body⟩, At, ct, Aa, ca, An, cn, Ab, cb⟩ := x
  obtain ⟨t1, t2, t3, t4, kinds⟩ := hx
  obtain ⟨h1, h2, h3, h4, h5, h6, h7, h8, h9, h10⟩ := kinds
  simp only at hk h1 h2 h3 h4 h5 h6 h7 h8 h9 h10 t1 t2 t3 t4
  subst hk
  have hb : Below w.heap.size w (w.alloc (.cells #[.int .i64 5, .int .u32 (src : Int), .int .u32 (about : Int), .slice At tups.length ct, .slice Aa abouts.length ca, .slice An nums.length cn, .int .u64 (rate : Int), .int .i64 ty, .int .i64 count, .slice Ab body.length cb] 33)) := (Below.refl _ w).alloc (Nat.le_refl _) _
  have hZ : Blk (w.alloc (.cells #[.int .i64 5, .int .u32 (src : Int), .int .u32 (about : Int), .slice At tups.length ct, .slice Aa abouts.length ca, .slice An nums.length cn, .int .u64 (rate : Int), .int .i64 ty, .int .i64 count, .slice Ab body.length cb] 33)) w.heap.size 33 #[.int .i64 5, .int .u32 (src : Int), .int .u32 (about : Int), .slice At tups.length ct, .slice Aa abouts.length ca, .slice An nums.length cn, .int .u64 (rate : Int), .int .i64 ty, .int .i64 count, .slice Ab body.length cb] := Blk.new _ _ _
  have hsz : (w.alloc (.cells #[.int .i64 5, .int .u32 (src : Int), .int .u32 (about : Int), .slice At tups.length ct, .slice Aa abouts.length ca, .slice An nums.length cn, .int .u64 (rate : Int), .int .i64 ty, .int .i64 count, .slice Ab body.length cb] 33)).heap.size = w.heap.size + 1 := by simp
  simp only [Rv.val, Rv.cells]
  have hle : abouts.length ≤ 16 := hle
  have t2 := t2.on hb
  have hle' : (abouts.length : Int) ≤ 16 := by omega
  obtain ⟨or, wlt, e63, m18⟩ := remb_or hle h4
  have hpk : ∀ W, Calls Try.prog 80 #[.int .u64 (rate : Int), .int .i64 18] W (AnsS (.tuple #[.int .i64 (pkE rate 18 : Int), .int .u32 (pkM rate 18 : Int)]) W) := fun W => rate_pack_s rate 18 W h4
  have OR := Lib.hid or
  clear t1 t3 t4 h3 h5 h6 h7 h8 h9 h10 or h4
  generalize hwd : rembW abouts.length rate = wd at OR wlt
  have HWD := Lib.hid hwd
  clear hwd
  generalize pkE rate 18 = E at *
  generalize pkM rate 18 = M at *
  go_enter Try.func61, Try.ntmps61
  go_upto_region 21 with (fail)
  generalize (w.alloc (.cells #[.int .i64 5, .int .u32 (src : Int), .int .u32 (about : Int), .slice At tups.length ct, .slice Aa abouts.length ca, .slice An nums.length cn, .int .u64 (rate : Int), .int .i64 ty, .int .i64 count, .slice Ab body.length cb] 33)) = V at hb hZ hsz t2 ⊢
  obtain ⟨y0, y1, y2, y3, y4, y5, y6, y7, y8, y9⟩ := blk10 hZ
  have HS := Lib.hid hsz
  have hlt : w.heap.size < V.heap.size := by omega
  clear hsz
  clear y0 y2 y3 y5 y7 y8 y9
  go_wp2_with fail
  ((with_reducible refine (hpk _).mono ?_); rintro e w3 ⟨rfl, rfl⟩)
  clear hpk y6
  have t2 : R32 (V.alloc (.cells #[.int .u32 (src : Int), .int .u32 0, .int .u32 1380273474, .int .u32 (bits .or .u32 (bits .or .u32 ((abouts.length : Int) * 16777216) ((E : Int) * 262144)) (M : Int))] 27)) V.heap.size Aa abouts.length ca abouts := t2.below ((Below.refl _ V).alloc (Nat.le_refl _) _)
  have ow : Own32 (V.alloc (.cells #[.int .u32 (src : Int), .int .u32 0, .int .u32 1380273474, .int .u32 (bits .or .u32 (bits .or .u32 ((abouts.length : Int) * 16777216) ((E : Int) * 262144)) (M : Int))] 27)) V.heap.size (.slice (some ⟨V.heap.size, 0, none⟩) 4 4) [src, 0, 1380273474, wd] := own32_lits V V.heap.size [src, 0, 1380273474, wd] _ 4 rfl (by rw [OR.out]; rfl) (by omega) (Nat.le_refl _)
  have b2 : Below V.heap.size V (V.alloc (.cells #[.int .u32 (src : Int), .int .u32 0, .int .u32 1380273474, .int .u32 (bits .or .u32 (bits .or .u32 ((abouts.length : Int) * 16777216) ((E : Int) * 262144)) (M : Int))] 27)) := (Below.refl _ V).alloc (Nat.le_refl _) _
  have z4 := (b2.cell (p := ⟨w.heap.size, 4, none⟩) hlt).trans y4
  have hl5 : [src, 0, 1380273474, wd].length + abouts.length ≤ 1000000 := by simp; omega
  have HL5 := Lib.hid hl5
  have hwl : ∀ x ∈ [src, 0, 1380273474, wd] ++ abouts, x < 4294967296 := by
    intro z hz
    rcases List.mem_append.1 hz with hz | hz
    · simp at hz; omega
    · exact t2.2.2.1 z hz
  have HWL := Lib.hid hwl
  have hs2 := b2.size
  clear hl5 hwl
  go_wp2_with (at_builtin; ((with_reducible refine wpList_append32 rfl (.tmp 100) (.tmp 102) rfl rfl V.heap.size _ [src, 0, 1380273474, wd] (by with_unfolding_all rfl) ow V.heap.size Aa _ ca _ (by with_unfolding_all rfl) t2 HL5.out hs2 ?_); rintro v5 w5 ⟨o5, g5⟩))
  have b5 := below_grown b2 hs2 g5 (fun k hk => (World.ownsRow.lt ow k hk).1)
  have b7 := hb.trans (b5.mono hb.size)
  obtain ⟨A1, c1, rfl, r1⟩ := o5.r32 HWL.out
  generalize hT : [src, 0, 1380273474, wd] ++ abouts = T at r1
  have HT := Lib.hid hT
  clear t2 ow b2 z4 HL5 HWL hs2 o5 g5 b5 hT y1 y4
  go_wp2_with fail
  go_ret
  refine ⟨A1, c1, ?_, ?_, b7⟩
  · rw [show src :: 0 :: 1380273474 :: wd :: abouts = T from HT.out]; rfl
  · rw [show src :: 0 :: 1380273474 :: wd :: abouts = T from HT.out]; exact r1
end Go.Proofs.Ytnchgmemajmkjaa
