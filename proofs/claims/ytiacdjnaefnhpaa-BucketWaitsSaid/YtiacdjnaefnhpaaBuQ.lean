/- Stage 10 in plain words: what BucketBound, BucketParts, BucketWaits say, of numbers. No function of the program. -/
import Derived.Test.YtiacdjnaefnhpaaCkB
import Derived.Test.YtiacdjnaefnhpaaCkQ
namespace Go.Proofs.Ytiacdjnaefnhpaa
open Go.RowKit
set_option linter.unusedVariables false
set_option linter.unusedSimpArgs false
set_option maxRecDepth 20000

/-- A tick of little numbers does not run over. -/
theorem tick_small {r u l n : Nat} (hr : r ≤ 1048576) (hu : u ≤ 16384) (hl : l ≤ u * 1000000) (hn : n ≤ 1099511627776) : tickN r u l n = min (l + r * n) (u * 1000000) := by
  have h1 : r * n ≤ 1048576 * 1099511627776 := Nat.mul_le_mul hr hn
  unfold tickN
  rw [mulC_small (by omega), addC_small (by omega)]
theorem held_small {n : Nat} (h : n ≤ 1099511627776) : heldN n = n := by unfold heldN po; rw [Int.toNat_natCast]; omega
/-- No more is taken than the burst, and the rate times the time, rounded up. -/
theorem bound_ok {r u l t k : Nat} (h : l + k * 1000000 ≤ u * 1000000 + r * t) : k ≤ u + overC ((r * t : Nat) : Int) ((1000000 : Nat) : Int) := by
  have h1 := over_mul (r * t) 1000000 (by omega)
  generalize overC ((r * t : Nat) : Int) ((1000000 : Nat) : Int) = O at h1 ⊢
  generalize r * t = R at *
  omega
theorem bound_tick {r u l t k n : Nat} (hr : r ≤ 1048576) (hu : u ≤ 16384) (hl : l ≤ u * 1000000) (hn : n ≤ 1099511627776) (h : l + k * 1000000 ≤ u * 1000000 + r * t) : tickN r u l n + k * 1000000 ≤ u * 1000000 + r * (t + n) := by
  rw [tick_small hr hu hl hn, Nat.mul_add]
  omega
/-- .. of a time that does not count. -/
theorem bound_tick0 {r u l n : Nat} (hr : r ≤ 1048576) (hu : u ≤ 16384) (hl : l ≤ u * 1000000) (hn : n ≤ 1099511627776) : tickN r u l n ≤ u * 1000000 := by
  rw [tick_small hr hu hl hn]
  omega
theorem take_yes {l n : Nat} (h : takeB l n = true) : takeL l n + n * 1000000 = l := by
  have h0 := h
  simp only [takeB, decide_eq_true_eq] at h0
  unfold takeL
  rw [if_pos h, Int.toNat_natCast]
  omega
theorem take_no {l n : Nat} (h : takeB l n = false) : takeL l n = l := by unfold takeL; rw [h]; rfl
theorem takeB_iff {l n : Nat} : takeB l n = true ↔ n * 1000000 ≤ l := by
  simp only [takeB, decide_eq_true_eq]
  omega
/-- What is told goes behind it: for all that is no more than the burst, the rate not nought. -/
theorem wait_goes {r u l n : Nat} (hr : r ≤ 1048576) (hr0 : 0 < r) (hu : u ≤ 16384) (hl : l ≤ u * 1000000) (hn : n ≤ u) : ∃ w : Nat, waitN r u l n = (w : Int) ∧ w ≤ 16384000000 ∧ n * 1000000 ≤ tickN r u l w := by
  by_cases h : n * 1000000 ≤ l
  · refine ⟨0, ?_, by omega, ?_⟩
    · unfold waitN
      rw [if_pos (by omega)]
      rfl
    · rw [tick_small hr hu hl (by omega)]
      omega
  · have e : (n : Int) * 1000000 - (l : Int) = ((n * 1000000 - l : Nat) : Int) := by omega
    have h1 := over_mul (n * 1000000 - l) r hr0
    have h2 := over_le (n * 1000000 - l) r hr0
    refine ⟨overC ((n * 1000000 - l : Nat) : Int) (r : Int), ?_, by omega, ?_⟩
    · unfold waitN
      rw [if_neg (by omega), if_neg (by omega), e]
    · rw [tick_small hr hu hl (by omega)]
      generalize overC ((n * 1000000 - l : Nat) : Int) (r : Int) = O at *
      rw [Nat.mul_comm r O]
      generalize O * r = P at *
      omega
theorem wait_none {u l n : Nat} (hl : l < n * 1000000) : waitN 0 u l n = -1 := by
  unfold waitN
  rw [if_neg (by omega), if_pos (.inr (.inr rfl))]
theorem wait_now {r u l n : Nat} (h : n * 1000000 ≤ l) : waitN r u l n = 0 := by
  unfold waitN
  rw [if_pos (by omega)]
/-- Time in parts. -/
theorem parts_tick {r u s n l : Nat} (hr : r ≤ 1048576) (hu : u ≤ 16384) (hn : n ≤ 1099511627776) (h : l = min (r * s) (u * 1000000)) : tickN r u l n = min (r * (s + n)) (u * 1000000) := by
  rw [tick_small hr hu (by omega) hn, Nat.mul_add]
  omega
theorem parts_level {r u s l : Nat} (h : l = min (r * s) (u * 1000000)) : l / 1000000 = min u (r * s / 1000000) := by
  generalize r * s = R at h ⊢
  omega
/-- A microsecond earlier it does not go. -/
theorem wait_sharp {r u n : Nat} (hr : r ≤ 1048576) (hr0 : 0 < r) (hu : u ≤ 16384) (hn : n ≤ u) (hn0 : 0 < n) : ∃ w : Nat, waitN r u 0 n = ((w + 1 : Nat) : Int) ∧ w ≤ 16384000000 ∧ n * 1000000 ≤ tickN r u 0 ((w + 1 : Nat) : Int) ∧ tickN r u 0 (w : Int) < n * 1000000 ∧ waitN r u (tickN r u 0 (w : Int)) n = 1 := by
  have e : (n : Int) * 1000000 - ((0 : Nat) : Int) = ((n * 1000000 : Nat) : Int) := by omega
  have h1 := over_mul (n * 1000000) r hr0
  have h2 := over_le (n * 1000000) r hr0
  have hw : waitN r u 0 n = (overC ((n * 1000000 : Nat) : Int) (r : Int) : Nat) := by
    unfold waitN
    rw [if_neg (by omega), if_neg (by omega), e]
  obtain ⟨O, hO⟩ : ∃ O, O = overC ((n * 1000000 : Nat) : Int) (r : Int) := ⟨_, rfl⟩
  rw [← hO] at h1 h2 hw
  have hO1 : 0 < O := by
    rcases Nat.eq_zero_or_pos O with h | h
    · subst h
      omega
    · exact h
  obtain ⟨w, rfl⟩ : ∃ w, O = w + 1 := ⟨O - 1, by omega⟩
  have m1 : (w + 1) * r = r * w + r := by rw [Nat.add_mul, Nat.one_mul, Nat.mul_comm]
  have m2 : r * (w + 1) = r * w + r := by rw [Nat.mul_add, Nat.mul_one]
  have t1 : tickN r u 0 ((w + 1 : Nat) : Int) = min (0 + r * (w + 1)) (u * 1000000) := tick_small hr hu (by omega) (by omega)
  have t2 : tickN r u 0 (w : Int) = min (0 + r * w) (u * 1000000) := tick_small hr hu (by omega) (by omega)
  rw [m1] at h1
  rw [m2] at t1
  have t3 : tickN r u 0 (w : Int) = r * w := by
    rw [t2]
    generalize r * w = P at *
    omega
  refine ⟨w, hw, by omega, ?_, ?_, ?_⟩
  · rw [t1]
    generalize r * w = P at *
    omega
  · rw [t3]
    generalize r * w = P at *
    omega
  · rw [t3]
    generalize r * w = P at *
    have hl : ¬ n * 1000000 ≤ P := by omega
    unfold waitN
    rw [if_neg (by omega), if_neg (by omega)]
    have e2 : (n : Int) * 1000000 - (P : Int) = ((n * 1000000 - P : Nat) : Int) := by omega
    rw [e2, overC_nat _ _ hr0]
    have hle : n * 1000000 - P ≤ r := by omega
    generalize n * 1000000 - P = D at *
    have hD : 0 < D := by omega
    rcases Nat.lt_or_ge D r with h3 | h3
    · rw [Nat.div_eq_of_lt h3, Nat.mod_eq_of_lt h3, if_pos hD]
      rfl
    · have : D = r := by omega
      subst this
      rw [Nat.div_self hD, Nat.mod_self, if_neg (by omega)]
      rfl
theorem wait_end {r u l n : Nat} (hr : r ≤ 1048576) (hu : u ≤ 16384) (hl : l ≤ u * 1000000) (hn : n ≤ u) : (Hid (waitN r u l n = -1) ∧ r = 0) ∨ ∃ w l1 : Nat, Hid (waitN r u l n = (w : Int)) ∧ w ≤ 16384000000 ∧ Hid (tickN r u l (w : Int) = l1) ∧ n * 1000000 ≤ l1 ∧ l1 ≤ u * 1000000 := by
  have ok : BkOk r u l := ⟨by omega, by omega, hl⟩
  rcases Nat.eq_zero_or_pos r with h0 | h0
  · by_cases h : n * 1000000 ≤ l
    · refine .inr ⟨0, _, Lib.hid (wait_now h), by omega, Lib.hid rfl, ?_, (tick_ok ok _).level⟩
      rw [tick_small hr hu hl (by omega)]
      omega
    · subst h0
      exact .inl ⟨Lib.hid (wait_none (by omega)), rfl⟩
  · obtain ⟨w, h1, h2, h3⟩ := wait_goes hr h0 hu hl hn
    exact .inr ⟨w, _, Lib.hid h1, h2, Lib.hid rfl, h3, (tick_ok ok _).level⟩
/-- A step of BucketBound's loop, told with its results by name. -/
theorem bound_step {r u l t k n : Nat} (hr : r ≤ 1048576) (hu : u ≤ 16384) (hl : l ≤ u * 1000000) (hn : n ≤ 1099511627776) (h : l + k * 1000000 ≤ u * 1000000 + r * t) : ∃ l1, Hid (tickN r u l (n : Int) = l1) ∧ l1 ≤ u * 1000000 ∧ l1 + k * 1000000 ≤ u * 1000000 + r * (t + n) :=
  ⟨_, Lib.hid rfl, bound_tick0 hr hu hl hn, bound_tick hr hu hl hn h⟩
theorem bound_take {l n : Nat} : (∃ l1, Hid (takeB l (n : Int) = true) ∧ Hid (takeL l (n : Int) = l1) ∧ l1 + n * 1000000 = l) ∨ (Hid (takeB l (n : Int) = false) ∧ Hid (takeL l (n : Int) = l)) := by
  cases h : takeB l (n : Int) with
  | true => exact .inl ⟨_, Lib.hid rfl, Lib.hid rfl, take_yes h⟩
  | false => exact .inr ⟨Lib.hid rfl, Lib.hid (take_no h)⟩
theorem bound_over {r u l t k : Nat} (h : l + k * 1000000 ≤ u * 1000000 + r * t) (hR : r * t ≤ 9223372036854775807) : ∃ R O : Nat, Hid (R = r * t) ∧ Hid (overC (R : Int) 1000000 = O) ∧ O ≤ R ∧ R ≤ 9223372036854775807 ∧ k ≤ u + O := by
  have h1 := bound_ok h
  have h2 := over_le (r * t) 1000000 (by omega)
  exact ⟨_, _, Lib.hid rfl, Lib.hid rfl, h2, hR, h1⟩
theorem wait_sharp2 {r u n : Nat} (hr : r ≤ 1048576) (hr0 : 0 < r) (hu : u ≤ 16384) (hn : n ≤ u) (hn0 : 0 < n) : ∃ v w l1 l2 : Nat, v = w + 1 ∧ Hid (waitN r u 0 n = (v : Int)) ∧ w ≤ 16384000000 ∧ Hid (tickN r u 0 (v : Int) = l1) ∧ Hid (tickN r u 0 (w : Int) = l2) ∧ n * 1000000 ≤ l1 ∧ l2 < n * 1000000 ∧ Hid (waitN r u l2 n = 1) ∧ l1 ≤ u * 1000000 ∧ l2 ≤ u * 1000000 := by
  obtain ⟨w, h1, h2, h3, h4, h5⟩ := wait_sharp hr hr0 hu hn hn0
  have ok1 : BkOk r u 0 := ⟨by omega, by omega, Nat.zero_le _⟩
  exact ⟨_, w, _, _, rfl, Lib.hid h1, h2, Lib.hid rfl, Lib.hid rfl, h3, h4, Lib.hid h5, (tick_ok ok1 _).level, (tick_ok ok1 _).level⟩
end Go.Proofs.Ytiacdjnaefnhpaa
