/- BucketWaits' walk. -/
import Derived.Test.YtiacdjnaefnhpaaBuK
import Derived.Test.YtiacdjnaefnhpaaBuQ
namespace Go.Proofs.Ytiacdjnaefnhpaa
open Go.RowKit
set_option linter.unusedVariables false
set_option linter.unusedSimpArgs false
set_option maxRecDepth 20000

theorem full_take (u : Nat) : takeL (u * 1000000) (u : Int) = 0 ∧ takeB (u * 1000000) (u : Int) = true := by
  have h : takeB (u * 1000000) (u : Int) = true := takeB_iff.2 (Nat.le_refl _)
  have h2 := take_yes h
  exact ⟨by omega, h⟩
set_option maxHeartbeats 2000000 in
theorem bucketWaits_walk (a b n : Int) (w : World) (ha : I64 a) (hb : I64 b) (hn : I64 n) :
    Calls Try.prog 7 #[.int .i64 a, .int .i64 b, .int .i64 n] w (Yes w) := by
  obtain ⟨r0, hr0, lr⟩ := bits_and_le a 1048575 (by omega)
  obtain ⟨u0, hu0, lu⟩ := bits_and_le b 16383 (by omega)
  obtain ⟨m0, hm0, lm⟩ := bits_and_le n 16383 (by omega)
  have HR0 : Hid (bits .and .i64 a 1048575 = (r0 : Int)) := Lib.hid hr0
  have HU0 : Hid (bits .and .i64 b 16383 = (u0 : Int)) := Lib.hid hu0
  have HM0 : Hid (bits .and .i64 n 16383 = (m0 : Int)) := Lib.hid hm0
  clear hr0 hu0 hm0
  obtain ⟨r, hr, r1, r2⟩ : ∃ r : Nat, wrap64 (1 + (r0 : Int)) = (r : Int) ∧ 0 < r ∧ r ≤ 1048576 := ⟨r0 + 1, by rw [wrap_i64 (by unfold I64; omega)]; omega, by omega, by omega⟩
  have HR := Lib.hid hr
  clear hr
  obtain ⟨u, hu, u1, u2⟩ : ∃ u : Nat, wrap64 (1 + (u0 : Int)) = (u : Int) ∧ 0 < u ∧ u ≤ 16384 := ⟨u0 + 1, by rw [wrap_i64 (by unfold I64; omega)]; omega, by omega, by omega⟩
  have HUU := Lib.hid hu
  clear hu
  have hum : ¬ (u : Int) = 0 := by omega
  have hum1 : ((u : Int) == 0) = false := by simpa using hum
  have hum2 : ((u : Int) == -1) = false := by rw [beq_eq_false_iff_ne]; omega
  have hrem : (m0 : Int).tmod (u : Int) = ((m0 % u : Nat) : Int) := by rw [Int.tmod_eq_emod_of_nonneg (by omega)]; rfl
  have hmu := Nat.mod_lt m0 u1
  have yrem : IntKind.i64.wrap ((m0 % u : Nat) : Int) = ((m0 % u : Nat) : Int) := i64_nn _ (by omega)
  obtain ⟨m, hm, m1, m2⟩ : ∃ m : Nat, wrap64 (1 + ((m0 % u : Nat) : Int)) = (m : Int) ∧ 0 < m ∧ m ≤ u := ⟨m0 % u + 1, by rw [wrap_i64 (by unfold I64; omega)]; omega, by omega, by omega⟩
  generalize m0 % u = m' at hrem yrem hm hmu
  have HMM := Lib.hid hm
  have HREM := Lib.hid hrem
  have HYREM := Lib.hid yrem
  clear hm hrem yrem
  obtain ⟨vt, wt, l1, l2, hvt, HT1, w2, HTA, HTB, w3, w4, HT5, w6, w7⟩ := wait_sharp2 r2 r1 u2 m2 m1
  have HF := Lib.hid (full_take u)
  have i1 : I64 (r : Int) := by unfold I64; omega
  have i2 : I64 (u : Int) := by unfold I64; omega
  have i3 : I64 (m : Int) := by unfold I64; omega
  have i4 : I64 (vt : Int) := by unfold I64; omega
  have i5 : I64 (wt : Int) := by unfold I64; omega
  have II := Lib.hid (⟨i1, i2, i3, i4, i5⟩ : _ ∧ _ ∧ _ ∧ _ ∧ _)
  have HH := Lib.hid (⟨held_small (n := r) (by omega), held_small (n := u) (by omega)⟩ : _ ∧ _)
  have ok0 := Lib.hid (⟨by omega, by omega, Nat.le_refl _⟩ : BkOk r u (u * 1000000))
  have ok1 := Lib.hid (⟨by omega, by omega, Nat.zero_le _⟩ : BkOk r u 0)
  have ok2 := Lib.hid (⟨by omega, by omega, w6⟩ : BkOk r u l1)
  have ok3 := Lib.hid (⟨by omega, by omega, w7⟩ : BkOk r u l2)
  have t1 : decide ((vt : Int) < 1) = false := by simp; omega
  have t2 : ¬ (vt : Int) < 1 := by omega
  have YW := Lib.hid (show wrap64 ((vt : Int) - 1) = (wt : Int) by rw [wrap_i64 (by unfold I64; omega)]; omega)
  have e6 : takeB l1 (m : Int) = true := takeB_iff.2 w3
  have e7 : takeB l2 (m : Int) = false := by
    have h := mt (takeB_iff (l := l2) (n := m)).1 (by omega)
    simpa using h
  have HE := Lib.hid (⟨e6, e7, wait_now (r := r) (u := u) w3⟩ : _ ∧ _ ∧ _)
  have HHM := Lib.hid (⟨hum, hum1, hum2⟩ : _ ∧ _ ∧ _)
  clear hvt r1 r2 u1 u2 m1 m2 lr lu lm w2 w3 w4 w6 w7 i1 i2 i3 i4 i5 e6 e7 ha hb hn hmu hum hum1 hum2
  go_enter Try.func7, Try.ntmps7
  go_upto_region 2 with (fail)
  rw [HR0.out, HU0.out, HR.out, HUU.out]
  clear HR0 HU0 HR HUU
  obtain ⟨hum, hum1, hum2⟩ := HHM.out
  have hm0 := HM0.out
  have hrem := HREM.out
  have yrem := HYREM.out
  have hm := HMM.out
  go_upto_region 3 with (fail)
  rw [HMM.out]
  clear hm0 hrem yrem hm HREM HYREM HMM HM0
  go_wp2_with fail
  ((with_reducible refine (pk_new_at II.out.1 II.out.2.1 HH.out.1 HH.out.2).mono ?_); rintro e W1 ⟨ga, rfl, pa1, hga, b1⟩)
  go_wp2_with fail
  ((with_reducible refine (pk_new_at II.out.1 II.out.2.1 HH.out.1 HH.out.2).mono ?_); rintro e W2 ⟨gb, rfl, pb2, hgb, d2⟩)
  have pa2 := pa1.on d2
  have b2 := b1.trans (d2.mono b1.size)
  have HN := Lib.hid (show gb ≠ ga by have := pa1.lt; omega)
  have HA := Lib.hid hga
  have HB := Lib.hid (Nat.le_trans b1.size hgb)
  clear pa1 b1 d2 hga hgb
  go_wp2_with fail
  ((with_reducible refine (pk_take_at pa2 ok0.out II.out.2.1 HF.out.1 HF.out.2).mono ?_); rintro e W3 h)
  have b3 := h.keep HA.out b2 b2.size
  obtain ⟨rfl, pa3, o⟩ := h
  have pb3 := pb2.only o HN.out
  clear o b2 pa2 pb2
  go_wp2_with fail
  ((with_reducible refine (pk_take_at pb3 ok0.out II.out.2.1 HF.out.1 HF.out.2).mono ?_); rintro e W4 h)
  have b4 := h.keep HB.out b3 b3.size
  obtain ⟨rfl, pb4, o⟩ := h
  have pa4 := pa3.only o HN.out.symm
  clear o b3 pb3 pa3
  go_wp2_with fail
  ((with_reducible refine (pk_wait_at pa4 ok1.out II.out.2.2.1 HT1.out).mono ?_); rintro e W5 ⟨rfl, d⟩)
  have pa5 := pa4.on d
  have pb5 := pb4.on d
  have b5 := b4.trans (d.mono b4.size)
  clear d b4 pa4 pb4
  go_wp2_with fail
  ((with_reducible refine (pk_tick_at pa5 ok1.out II.out.2.2.2.1 HTA.out).mono ?_); rintro e W6 h)
  have b6 := h.keep HA.out b5 b5.size
  obtain ⟨rfl, pa6, o⟩ := h
  have pb6 := pb5.only o HN.out
  clear o b5 pa5 pb5
  go_wp2_with fail
  rw [YW.out]
  go_wp2_with fail
  ((with_reducible refine (pk_tick_at pb6 ok1.out II.out.2.2.2.2 HTB.out).mono ?_); rintro e W7 h)
  have b7 := h.keep HB.out b6 b6.size
  obtain ⟨rfl, pb7, o⟩ := h
  have pa7 := pa6.only o HN.out.symm
  clear o b6 pb6 pa6
  go_wp2_with fail
  ((with_reducible refine (pk_wait_at pa7 ok2.out II.out.2.2.1 HE.out.2.2).mono ?_); rintro e W8 ⟨rfl, d⟩)
  have pa8 := pa7.on d
  have pb8 := pb7.on d
  have b8 := b7.trans (d.mono b7.size)
  clear d b7 pa7 pb7
  go_wp2_with fail
  ((with_reducible refine (pk_wait_at pb8 ok3.out II.out.2.2.1 HT5.out).mono ?_); rintro e W9 ⟨rfl, d⟩)
  have pa9 := pa8.on d
  have pb9 := pb8.on d
  have b9 := b8.trans (d.mono b8.size)
  clear d b8 pa8 pb8
  go_wp2_with fail
  ((with_reducible refine (pk_take_at pa9 ok2.out II.out.2.2.1 rfl HE.out.1).mono ?_); rintro e W10 h)
  have b10 := h.keep HA.out b9 b9.size
  obtain ⟨rfl, pa10, o⟩ := h
  have pb10 := pb9.only o HN.out
  clear o b9 pa9 pb9
  go_wp2_with fail
  ((with_reducible refine (pk_take_at pb10 ok3.out II.out.2.2.1 rfl HE.out.2.1).mono ?_); rintro e W11 h)
  have b11 := h.keep HB.out b10 b10.size
  obtain ⟨rfl, pb11, o⟩ := h
  have pa11 := pa10.only o HN.out.symm
  clear o b10 pb10 pa10
  go_wp2_with fail
  ((with_reducible refine (known10_any _).mono ?_); rintro e WZ ⟨rfl, d⟩)
  have bz := b11.trans (d.mono b11.size)
  clear d b11
  go_wp2_with fail
  go_ret
  exact ⟨rfl, bz⟩
end Go.Proofs.Ytiacdjnaefnhpaa
