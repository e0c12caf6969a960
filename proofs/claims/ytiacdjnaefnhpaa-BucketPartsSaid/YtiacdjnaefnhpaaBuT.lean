/- BucketParts' walk. -/
import Derived.Test.YtiacdjnaefnhpaaBuW
import Derived.Test.YtiacdjnaefnhpaaRi
namespace Go.Proofs.Ytiacdjnaefnhpaa
open Go.RowKit
set_option linter.unusedVariables false
set_option linter.unusedSimpArgs false
set_option maxRecDepth 20000

/-- What stands while time comes in parts. -/
def PrtAt (w0 : World) (ga gb r u s : Nat) (W : World) : Prop := ∃ l, PkAt W ga r u l ∧ PkAt W gb r u 0 ∧ l = min (r * s) (u * 1000000) ∧ Below w0.heap.size w0 W
set_option maxHeartbeats 2000000 in
theorem bucketParts_walk (a b : Int) (A : Option Addr) (n c : Nat) (w : World) (ha : I64 a) (hb : I64 b) (hr : RI w w.heap.size A n c) (hn : n ≤ 281474976710656) :
    Calls Try.prog 6 #[.int .i64 a, .int .i64 b, .slice A n c] w (Yes w) := by
  obtain ⟨r, hr0, lr⟩ := bits_and_le a 1048575 (by omega)
  obtain ⟨u, hu0, lu⟩ := bits_and_le b 16383 (by omega)
  have HR0 : Hid (bits .and .i64 a 1048575 = (r : Int)) := Lib.hid hr0
  have HU0 : Hid (bits .and .i64 b 16383 = (u : Int)) := Lib.hid hu0
  have HRI := Lib.hid hr
  clear hr0 hu0 ha hb hr
  have HF := Lib.hid (full_take u)
  have II := Lib.hid (⟨by unfold I64; omega, by unfold I64; omega⟩ : I64 (r : Int) ∧ I64 (u : Int))
  have HH := Lib.hid (⟨held_small (n := r) (by omega), held_small (n := u) (by omega)⟩ : _ ∧ _)
  have ok0 := Lib.hid (⟨by omega, by omega, Nat.le_refl _⟩ : BkOk r u (u * 1000000))
  have ok1 := Lib.hid (⟨by omega, by omega, Nat.zero_le _⟩ : BkOk r u 0)
  go_enter Try.func6, Try.ntmps6
  go_upto_region 2 with (fail)
  rw [HR0.out, HU0.out]
  clear HR0 HU0
  go_wp2_with fail
  ((with_reducible refine (pk_new_at II.out.1 II.out.2 HH.out.1 HH.out.2).mono ?_); rintro e W1 ⟨ga, rfl, pa1, hga, b1⟩)
  go_wp2_with fail
  ((with_reducible refine (pk_new_at II.out.1 II.out.2 HH.out.1 HH.out.2).mono ?_); rintro e W2 ⟨gb, rfl, pb2, hgb, d2⟩)
  have pa2 := pa1.on d2
  have b2 := b1.trans (d2.mono b1.size)
  have HN := Lib.hid (show gb ≠ ga by have := pa1.lt; omega)
  have HA := Lib.hid hga
  have HB := Lib.hid (Nat.le_trans b1.size hgb)
  clear pa1 b1 d2 hga hgb
  go_wp2_with fail
  ((with_reducible refine (pk_take_at pa2 ok0.out II.out.2 HF.out.1 HF.out.2).mono ?_); rintro e W3 h)
  have b3 := h.keep HA.out b2 b2.size
  obtain ⟨rfl, pa3, o⟩ := h
  have pb3 := pb2.only o HN.out
  clear o b2 pa2 pb2
  go_wp2_with fail
  ((with_reducible refine (pk_take_at pb3 ok0.out II.out.2 HF.out.1 HF.out.2).mono ?_); rintro e W4 h)
  have b4 := h.keep HB.out b3 b3.size
  obtain ⟨rfl, pb4, o⟩ := h
  have pa4 := pa3.only o HN.out.symm
  clear o b3 pb3 pa3
  have HP := Lib.hid (⟨0, pa4, pb4, by omega, b4⟩ : PrtAt w ga gb r u 0 W4)
  clear pa4 pb4 b4
  go_wp2_with fail
  go_loopw [11, 12] (fun v i wr => ∃ q s : Nat, q ≤ n ∧ q ≤ 30 ∧ s ≤ 65535 * q ∧ v = .int .i64 (s : Int) ∧ i = .int .i64 (q : Int) ∧ Hid (PrtAt w ga gb r u s wr)) (fun _ i _ => 30 - (intOf i).toNat)
  case atStart => exact ⟨0, 0, by omega, by omega, by omega, rfl, rfl, HP⟩
  case round =>
    obtain ⟨q, s, hqn, hq, hs, rfl, rfl, HP⟩ := hrel
    obtain ⟨l, pa0, pb0, hl, b0⟩ := HP.out
    have HL := Lib.hid hl
    clear hl HP
    by_cases hlt : q < n ∧ q < 30
    · obtain ⟨hl1, hl2⟩ := hlt
      have g1 : decide ((q : Int) < (n : Int)) = true := by simp; omega
      have g2 : decide ((q : Int) < 30) = true := by simp; omega
      have g3 : (q : Int) < (n : Int) := by omega
      obtain ⟨bA, off, rfl, hbA, hc⟩ := HRI.out.2 (by omega)
      obtain ⟨x, hx, c0⟩ := hc q hl1
      have HC := Lib.hid (⟨hbA, c0⟩ : _ ∧ _)
      have c1 : wr.cell? ⟨bA, off + q, none⟩ = some (.int .i64 x) := (b0.cell (p := ⟨bA, off + q, none⟩) hbA).trans c0
      obtain ⟨k, hk, lk⟩ := bits_and_le x 65535 (by omega)
      have HK : Hid (bits .and .i64 x 65535 = (k : Int)) := Lib.hid hk
      clear hk hx hc c0
      have iK := Lib.hid (show I64 (k : Int) by unfold I64; omega)
      have okl := Lib.hid (show BkOk r u l from ⟨by omega, by omega, by have := HL.out; omega⟩)
      have HT := Lib.hid (parts_tick (n := k) (show r ≤ 1048576 by omega) (show u ≤ 16384 by omega) (by omega) HL.out)
      have yk := Lib.hid (show IntKind.i64.wrap ((s : Int) + (k : Int)) = ((s + k : Nat) : Int) from i64_nn _ (by omega))
      obtain ⟨s2, hs2⟩ : ∃ s2, s2 = s + k := ⟨_, rfl⟩
      rw [← hs2] at HT yk
      have hs3 : s2 ≤ 65535 * (q + 1) := by omega
      clear hs2 lk hs
      go_wp2_with fail
      rw [HK.out]
      ((with_reducible refine (pk_tick_at pa0 okl.out iK.out HT.out).mono ?_); rintro e V1 h)
      have b1 := h.keep HA.out b0 b0.size
      obtain ⟨rfl, pa1, o⟩ := h
      have pb1 := pb0.only o HN.out
      have c2 : V1.cell? ⟨bA, off + q, none⟩ = some (.int .i64 x) := (b1.cell (p := ⟨bA, off + q, none⟩) HC.out.1).trans HC.out.2
      clear o b0 pa0 pb0 c1
      go_wp2_with fail
      ((with_reducible refine (pk_rate_at pa1 II.out.1 HH.out.1).mono ?_); rintro e V2 h)
      have b2 := h.keep HA.out b1 b1.size
      obtain ⟨rfl, pa2, o⟩ := h
      have pb2 := pb1.only o HN.out
      have c3 : V2.cell? ⟨bA, off + q, none⟩ = some (.int .i64 x) := (b2.cell (p := ⟨bA, off + q, none⟩) HC.out.1).trans HC.out.2
      clear o b1 pa1 pb1 c2
      have hk := HK.out
      have hy := yk.out
      go_wp2_with fail
      go_roundw
      case rel => exact ⟨q + 1, s2, by omega, by omega, by omega, rfl, by go_num, Lib.hid ⟨_, pa2, pb2, rfl, b2⟩⟩
      case measure => simp [intOf]; omega
    · have HS : Hid (¬ (q < n ∧ q < 30)) := Lib.hid hlt
      clear hlt
      have okl := Lib.hid (show BkOk r u l from ⟨by omega, by omega, by have := HL.out; omega⟩)
      have iS := Lib.hid (show I64 (s : Int) by unfold I64; omega)
      have HT : Hid (tickN r u 0 (s : Int) = l) := Lib.hid (by
        have h := parts_tick (l := 0) (s := 0) (n := s) (show r ≤ 1048576 by omega) (show u ≤ 16384 by omega) (by omega) (by omega)
        rw [h, Nat.zero_add]
        exact HL.out.symm)
      have HD := Lib.hid (parts_level HL.out)
      have hrs : r * s ≤ 1048575 * 1966050 := Nat.mul_le_mul lr (by omega)
      have yR := Lib.hid (show IntKind.i64.wrap ((r : Int) * (s : Int)) = ((r * s : Nat) : Int) by rw [← Int.natCast_mul]; exact i64_nn _ (by omega))
      obtain ⟨R, hR⟩ : ∃ R, R = r * s := ⟨_, rfl⟩
      rw [← hR] at yR HD hrs
      have hdR : (R : Int).tdiv 1000000 = ((R / 1000000 : Nat) : Int) := by rw [Int.tdiv_eq_ediv_of_nonneg (by omega)]; rfl
      have hdR2 : (R : Int) / 1000000 = ((R / 1000000 : Nat) : Int) := by omega
      have yD : IntKind.i64.wrap ((R / 1000000 : Nat) : Int) = ((R / 1000000 : Nat) : Int) := i64_nn _ (by omega)
      obtain ⟨Q, hQ⟩ : ∃ Q, Q = R / 1000000 := ⟨_, rfl⟩
      rw [← hQ] at hdR hdR2 yD HD
      obtain ⟨D, hD⟩ : ∃ D, D = l / 1000000 := ⟨_, rfl⟩
      rw [← hD] at HD
      have HDL := Lib.hid hD.symm
      have hDu := HD.out
      have x1 : decide ((D : Int) ≤ (u : Int)) = true := by simp; omega
      have x2 : (D : Int) ≤ (u : Int) := by omega
      have x3 : (if (u : Int) < (Q : Int) then (u : Int) else (Q : Int)) = (D : Int) := by split <;> omega
      have x4 : (if (Q : Int) < (u : Int) then (Q : Int) else (u : Int)) = (D : Int) := by split <;> omega
      have x5 : (if Q < u then (Q : Int) else (u : Int)) = (D : Int) := by split <;> omega
      have x6 : (if u < Q then (u : Int) else (Q : Int)) = (D : Int) := by split <;> omega
      have HX := Lib.hid (⟨yR.out, hdR, hdR2, yD, x1, x2, x3, x4, x5, x6⟩ : _ ∧ _ ∧ _ ∧ _ ∧ _ ∧ _ ∧ _ ∧ _ ∧ _ ∧ _)
      have HG : Hid ((decide ((q : Int) < (n : Int)) = true ∧ decide ((q : Int) < 30) = false ∧ q < n) ∨ (decide ((q : Int) < (n : Int)) = false ∧ ¬ q < n)) := Lib.hid (by
        by_cases h : q < n
        · have hq30 : ¬ q < 30 := fun h2 => HS.out ⟨h, h2⟩
          exact .inl ⟨by simp; omega, by simp; omega, h⟩
        · exact .inr ⟨by simp; omega, h⟩)
      have HV := Lib.hid (rfl : waitN r u l (u : Int) = waitN r u l (u : Int))
      generalize hV : waitN r u l (u : Int) = V at HV
      have HV2 := Lib.hid hV
      clear hV HV hR hQ hD hDu hdR hdR2 yD x1 x2 x3 x4 x5 x6 hrs HS yR hs
      rcases HG.out with ⟨g1, g2, g3⟩ | ⟨g1, g2⟩
      · clear HG
        go_wp2_with fail
        ((with_reducible refine (pk_tick_at pb0 ok1.out iS.out HT.out).mono ?_); rintro e V1 h)
        have b1 := h.keep HB.out b0 b0.size
        obtain ⟨rfl, pb1, o⟩ := h
        have pa1 := pa0.only o HN.out.symm
        clear o b0 pa0 pb0
        go_wp2_with fail
        ((with_reducible refine (pk_level_at pa1 okl.out HDL.out).mono ?_); rintro e V2 ⟨rfl, d⟩)
        have pa2 := pa1.on d
        have pb2 := pb1.on d
        have b2 := b1.trans (d.mono b1.size)
        clear d b1 pa1 pb1
        go_wp2_with fail
        ((with_reducible refine (pk_level_at pb2 okl.out HDL.out).mono ?_); rintro e V3 ⟨rfl, d⟩)
        have pa3 := pa2.on d
        have pb3 := pb2.on d
        have b3 := b2.trans (d.mono b2.size)
        clear d b2 pa2 pb2
        obtain ⟨q0, q1, q2, q3, x1, x2, x3, x4, x5, x6⟩ := HX.out
        go_wp2_with fail
        ((with_reducible refine (pk_level_at pa3 okl.out HDL.out).mono ?_); rintro e V4 ⟨rfl, d⟩)
        have pa4 := pa3.on d
        have pb4 := pb3.on d
        have b4 := b3.trans (d.mono b3.size)
        clear d b3 pa3 pb3
        go_wp2_with fail
        ((with_reducible refine (pk_level_at pa4 okl.out HDL.out).mono ?_); rintro e V5 ⟨rfl, d⟩)
        have pa5 := pa4.on d
        have pb5 := pb4.on d
        have b5 := b4.trans (d.mono b4.size)
        clear d b4 pa4 pb4
        go_wp2_with fail
        ((with_reducible refine (pk_wait_at pa5 okl.out II.out.2 HV2.out).mono ?_); rintro e V6 ⟨rfl, d⟩)
        have pa6 := pa5.on d
        have pb6 := pb5.on d
        have b6 := b5.trans (d.mono b5.size)
        clear d b5 pa5 pb5
        go_wp2_with fail
        ((with_reducible refine (pk_wait_at pb6 okl.out II.out.2 HV2.out).mono ?_); rintro e V7 ⟨rfl, d⟩)
        have pa7 := pa6.on d
        have pb7 := pb6.on d
        have b7 := b6.trans (d.mono b6.size)
        clear d b6 pa6 pb6
        go_wp2_with fail
        ((with_reducible refine (known10_any _).mono ?_); rintro e WZ ⟨rfl, d⟩)
        have bz := b7.trans (d.mono b7.size)
        clear d b7
        go_wp2_with fail
        go_ret
        exact ⟨rfl, bz⟩
      · clear HG
        go_wp2_with fail
        ((with_reducible refine (pk_tick_at pb0 ok1.out iS.out HT.out).mono ?_); rintro e V1 h)
        have b1 := h.keep HB.out b0 b0.size
        obtain ⟨rfl, pb1, o⟩ := h
        have pa1 := pa0.only o HN.out.symm
        clear o b0 pa0 pb0
        go_wp2_with fail
        ((with_reducible refine (pk_level_at pa1 okl.out HDL.out).mono ?_); rintro e V2 ⟨rfl, d⟩)
        have pa2 := pa1.on d
        have pb2 := pb1.on d
        have b2 := b1.trans (d.mono b1.size)
        clear d b1 pa1 pb1
        go_wp2_with fail
        ((with_reducible refine (pk_level_at pb2 okl.out HDL.out).mono ?_); rintro e V3 ⟨rfl, d⟩)
        have pa3 := pa2.on d
        have pb3 := pb2.on d
        have b3 := b2.trans (d.mono b2.size)
        clear d b2 pa2 pb2
        obtain ⟨q0, q1, q2, q3, x1, x2, x3, x4, x5, x6⟩ := HX.out
        go_wp2_with fail
        ((with_reducible refine (pk_level_at pa3 okl.out HDL.out).mono ?_); rintro e V4 ⟨rfl, d⟩)
        have pa4 := pa3.on d
        have pb4 := pb3.on d
        have b4 := b3.trans (d.mono b3.size)
        clear d b3 pa3 pb3
        go_wp2_with fail
        ((with_reducible refine (pk_level_at pa4 okl.out HDL.out).mono ?_); rintro e V5 ⟨rfl, d⟩)
        have pa5 := pa4.on d
        have pb5 := pb4.on d
        have b5 := b4.trans (d.mono b4.size)
        clear d b4 pa4 pb4
        go_wp2_with fail
        ((with_reducible refine (pk_wait_at pa5 okl.out II.out.2 HV2.out).mono ?_); rintro e V6 ⟨rfl, d⟩)
        have pa6 := pa5.on d
        have pb6 := pb5.on d
        have b6 := b5.trans (d.mono b5.size)
        clear d b5 pa5 pb5
        go_wp2_with fail
        ((with_reducible refine (pk_wait_at pb6 okl.out II.out.2 HV2.out).mono ?_); rintro e V7 ⟨rfl, d⟩)
        have pa7 := pa6.on d
        have pb7 := pb6.on d
        have b7 := b6.trans (d.mono b6.size)
        clear d b6 pa6 pb6
        go_wp2_with fail
        ((with_reducible refine (known10_any _).mono ?_); rintro e WZ ⟨rfl, d⟩)
        have bz := b7.trans (d.mono b7.size)
        clear d b7
        go_wp2_with fail
        go_ret
        exact ⟨rfl, bz⟩
end Go.Proofs.Ytiacdjnaefnhpaa
