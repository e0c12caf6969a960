/- BucketBound's walk. -/
import Derived.Test.YtiacdjnaefnhpaaBuT
import Derived.Test.YtiacdjnaefnhpaaAkM
import Derived.Test.YtiacdjnaefnhpaaCWithinE
namespace Go.Proofs.Ytiacdjnaefnhpaa
open Go.RowKit
set_option linter.unusedVariables false
set_option linter.unusedSimpArgs false
set_option maxRecDepth 20000

/-- What stands while it is asked and time goes by. -/
def BndAt (w0 : World) (g r u k t : Nat) (W : World) : Prop := ∃ l, PkAt W g r u l ∧ l ≤ u * 1000000 ∧ l + k * 1000000 ≤ u * 1000000 + r * t ∧ Below w0.heap.size w0 W
set_option maxHeartbeats 4000000 in
theorem bucketBound_walk (a b : Int) (A : Option Addr) (n c : Nat) (L : List Ask) (f : Int) (w : World) (ha : I64 a) (hb : I64 b) (h : RA w w.heap.size A n c L) (hn : n ≤ 8796093022200) (hf : I64 f) :
    Calls Try.prog 5 #[.int .i64 a, .int .i64 b, .slice A n c, .int .i64 f] w (Yes w) := by
  obtain ⟨r, hr0, lr⟩ := bits_and_le a 1048575 (by omega)
  obtain ⟨u, hu0, lu⟩ := bits_and_le b 16383 (by omega)
  have HR0 : Hid (bits .and .i64 a 1048575 = (r : Int)) := Lib.hid hr0
  have HU0 : Hid (bits .and .i64 b 16383 = (u : Int)) := Lib.hid hu0
  have HRA := Lib.hid h
  have hin := Lib.hid h.2.1
  have hlen := Lib.hid h.1
  clear hr0 hu0 ha hb h
  obtain ⟨kk, hk0, hk40, _, hwi⟩ := within_ex f 0 40 hf (by omega) (by omega) (by omega)
  have HW := Lib.hid hwi
  clear hwi hf
  have II := Lib.hid (⟨by unfold I64; omega, by unfold I64; omega⟩ : I64 (r : Int) ∧ I64 (u : Int))
  have HH := Lib.hid (⟨held_small (n := r) (by omega), held_small (n := u) (by omega)⟩ : _ ∧ _)
  have OK := Lib.hid (fun l (hl : l ≤ u * 1000000) => (⟨by omega, by omega, hl⟩ : BkOk r u l))
  have HLR := Lib.hid (⟨lr, lu⟩ : _ ∧ _)
  go_enter Try.func5, Try.ntmps5
  go_upto_region 2 with (fail)
  rw [HR0.out, HU0.out]
  clear HR0 HU0
  go_wp2_with fail
  ((with_reducible refine (pk_new_at II.out.1 II.out.2 HH.out.1 HH.out.2).mono ?_); rintro e W1 ⟨g, rfl, p1, hg, b1⟩)
  have HG := Lib.hid hg
  clear hg
  go_wp2_with fail
  refine (HW.out _).mono ?_
  rintro e w' ⟨rfl, hw'⟩
  rw [hw']
  clear hw' w' HW
  have HP := Lib.hid (⟨u * 1000000, p1, Nat.le_refl _, by omega, b1⟩ : BndAt w g r u 0 0 W1)
  clear p1 b1
  go_wp2_with fail
  go_loopw [12, 13, 15, 16] (fun v1 v2 i _ wr => ∃ q k t : Nat, q ≤ n ∧ q ≤ 100 ∧ k ≤ 4095 * q ∧ t ≤ 262143 * q ∧ v1 = .int .i64 (k : Int) ∧ v2 = .int .i64 (t : Int) ∧ i = .int .i64 (q : Int) ∧ Hid ((q : Int) ≤ kk → k = 0 ∧ t = 0) ∧ Hid (BndAt w g r u k t wr)) (fun _ _ i _ _ => 100 - (intOf i).toNat)
  case atStart => exact ⟨0, 0, 0, by omega, by omega, by omega, by omega, rfl, rfl, rfl, Lib.hid (fun _ => ⟨rfl, rfl⟩), HP⟩
  case round =>
    obtain ⟨q, k, t, hqn, hq, hk, ht, rfl, rfl, rfl, HZ, HP⟩ := hrel
    obtain ⟨l, p0, hl, hB, b0⟩ := HP.out
    have HB := Lib.hid hB
    clear hB HP
    by_cases hlt : q < n ∧ q < 100
    · obtain ⟨hl1, hl2⟩ := hlt
      have g1 : decide ((q : Int) < (n : Int)) = true := by simp; omega
      have g2 : decide ((q : Int) < 100) = true := by simp; omega
      have g3 : (q : Int) < (n : Int) := by omega
      have hql : q < L.length := by have := hlen.out; omega
      obtain ⟨bA, off, rfl, hbA, c0, c1⟩ := (HRA.out.below b0).at (q := q) hql
      generalize L[q].kind = kd at c0
      generalize L[q].n = nn at c1
      obtain ⟨m, hm, lm⟩ := bits_and_le nn 262143 (by omega)
      have HM : Hid (bits .and .i64 nn 262143 = (m : Int)) := Lib.hid hm
      clear hm
      obtain ⟨k1, hk1, lk1⟩ := bits_and_le kd 1 (by omega)
      have HK1 : Hid (bits .and .i64 kd 1 = (k1 : Int)) := Lib.hid hk1
      clear hk1
      obtain ⟨m2, hm2, lm2⟩ := bits_and_le (m : Int) 4095 (by omega)
      have HM2 : Hid (bits .and .i64 (m : Int) 4095 = (m2 : Int)) := Lib.hid hm2
      clear hm2
      have iM := Lib.hid (⟨by unfold I64; omega, by unfold I64; omega⟩ : I64 (m : Int) ∧ I64 (m2 : Int))
      have hm := HM.out
      have hk1 := HK1.out
      have hm2 := HM2.out
      go_upto_region 11 with (fail)
      obtain hz | hz : k1 = 0 ∨ k1 = 1 := by omega
      · subst hz
        clear lk1 HK1
        go_upto_region 12 with (fail)
        by_cases hkq : kk ≤ (q : Int)
        · have x1 : decide (kk ≤ (q : Int)) = true := by simpa using hkq
          obtain ⟨l1, HT, hl1', hB1⟩ := bound_step (n := m) (show r ≤ 1048576 by omega) (show u ≤ 16384 by omega) hl (by omega) HB.out
          have yt : IntKind.i64.wrap ((t : Int) + (m : Int)) = ((t + m : Nat) : Int) := i64_nn _ (by omega)
          obtain ⟨t2, ht2⟩ : ∃ t2, t2 = t + m := ⟨_, rfl⟩
          rw [← ht2] at yt hB1
          have ht3 : t2 ≤ 262143 * (q + 1) := by omega
          have HB1 := Lib.hid hB1
          have HZ1 : Hid (((q + 1 : Nat) : Int) ≤ kk → k = 0 ∧ t2 = 0) := Lib.hid (fun h => by exfalso; omega)
          clear hB1 ht2 hkq lm lm2
          go_wp2_with fail
          ((with_reducible refine (pk_tick_at p0 (OK.out l hl) iM.out.1 HT.out).mono ?_); rintro e V1 h)
          have b2 := h.keep HG.out b0 b0.size
          obtain ⟨rfl, p2, _⟩ := h
          clear b0 p0 c0 c1
          go_wp2_with fail
          go_roundw
          case rel => exact ⟨q + 1, k, t2, by omega, by omega, by omega, by omega, rfl, rfl, by go_num, HZ1, Lib.hid ⟨_, p2, hl1', HB1.out, b2⟩⟩
          case measure => simp [intOf]; omega
        · have x1 : decide (kk ≤ (q : Int)) = false := by simpa using hkq
          obtain ⟨e1, e2⟩ := HZ.out (by omega)
          obtain ⟨l1, HT, hl1', _⟩ := bound_step (n := m) (show r ≤ 1048576 by omega) (show u ≤ 16384 by omega) hl (by omega) HB.out
          have HB1 := Lib.hid (show l1 + k * 1000000 ≤ u * 1000000 + r * t by
            have h2 : r * t = 0 := by rw [e2, Nat.mul_zero]
            omega)
          have HZ1 : Hid (((q + 1 : Nat) : Int) ≤ kk → k = 0 ∧ t = 0) := Lib.hid (fun h => ⟨e1, e2⟩)
          clear hkq e1 e2 lm lm2
          go_wp2_with fail
          ((with_reducible refine (pk_tick_at p0 (OK.out l hl) iM.out.1 HT.out).mono ?_); rintro e V1 h)
          have b2 := h.keep HG.out b0 b0.size
          obtain ⟨rfl, p2, _⟩ := h
          clear b0 p0 c0 c1
          go_wp2_with fail
          go_roundw
          case rel => exact ⟨q + 1, k, t, by omega, by omega, by omega, by omega, rfl, rfl, by go_num, HZ1, Lib.hid ⟨_, p2, hl1', HB1.out, b2⟩⟩
          case measure => simp [intOf]; omega
      · subst hz
        clear lk1 HK1
        go_upto_region 15 with (fail)
        obtain ⟨l1, HT1, HT2, hlm⟩ | ⟨HT1, HT2⟩ := bound_take (l := l) (n := m2)
        · have hl1' : l1 ≤ u * 1000000 := by omega
          by_cases hkq : kk ≤ (q : Int)
          · have x1 : decide (kk ≤ (q : Int)) = true := by simpa using hkq
            have yk : IntKind.i64.wrap ((k : Int) + (m2 : Int)) = ((k + m2 : Nat) : Int) := i64_nn _ (by omega)
            obtain ⟨k2, hk2⟩ : ∃ k2, k2 = k + m2 := ⟨_, rfl⟩
            rw [← hk2] at yk
            have HB2 := Lib.hid (show l1 + k2 * 1000000 ≤ u * 1000000 + r * t by have := HB.out; omega)
            have hk3 : k2 ≤ 4095 * (q + 1) := by omega
            have HZ1 : Hid (((q + 1 : Nat) : Int) ≤ kk → k2 = 0 ∧ t = 0) := Lib.hid (fun h => by exfalso; omega)
            obtain ⟨R, O, HRR, HO, hOR, hRl, hkO⟩ := bound_over HB2.out (by
              have h1 : r * t ≤ 1048575 * 26214300 := Nat.mul_le_mul (by omega) (by omega)
              omega)
            have yR : IntKind.i64.wrap ((r : Int) * (t : Int)) = (R : Int) := by rw [← Int.natCast_mul, ← HRR.out]; exact i64_nn _ hRl
            have hR46 : R ≤ 27487790694400 := by
              have h1 : r * t ≤ 1048575 * 26214300 := Nat.mul_le_mul (by omega) (by omega)
              rw [HRR.out]
              omega
            have yO : IntKind.i64.wrap ((u : Int) + (O : Int)) = ((u + O : Nat) : Int) := i64_nn _ (by omega)
            obtain ⟨UO, hUO⟩ : ∃ UO, UO = u + O := ⟨_, rfl⟩
            rw [← hUO] at yO hkO
            have x5 : decide ((UO : Int) < (k2 : Int)) = false := by simp; omega
            have x6 : ¬ UO < k2 := by omega
            have co := Lib.hid (fun W => ref_over (R : Int) 1000000 (by unfold I64; omega) (by unfold I64; omega) W)
            rw [HO.out] at co
            have HX := Lib.hid (⟨yR, yO, x5, x6⟩ : _ ∧ _ ∧ _ ∧ _)
            clear yR yO x5 x6 hUO hkO hOR hRl hR46
            clear hkq lm lm2 hk2 hlm
            go_wp2_with fail
            ((with_reducible refine (pk_take_at p0 (OK.out l hl) iM.out.2 HT2.out HT1.out).mono ?_); rintro e V1 h)
            have b2 := h.keep HG.out b0 b0.size
            obtain ⟨rfl, p2, _⟩ := h
            clear b0 p0 c0 c1
            obtain ⟨yR, yO, x5, x6⟩ := HX.out
            go_wp2_with fail
            ((with_reducible refine (co.out _).mono ?_); rintro e w' ⟨rfl, rfl⟩)
            go_wp2_with fail
            go_roundw
            case rel => exact ⟨q + 1, k2, t, by omega, by omega, by omega, by omega, rfl, rfl, by go_num, HZ1, Lib.hid ⟨_, p2, hl1', HB2.out, b2⟩⟩
            case measure => simp [intOf]; omega
          · have x1 : decide (kk ≤ (q : Int)) = false := by simpa using hkq
            have HB2 := Lib.hid (show l1 + k * 1000000 ≤ u * 1000000 + r * t by have := HB.out; omega)
            have HZ1 : Hid (((q + 1 : Nat) : Int) ≤ kk → k = 0 ∧ t = 0) := Lib.hid (fun h => HZ.out (by omega))
            obtain ⟨R, O, HRR, HO, hOR, hRl, hkO⟩ := bound_over HB2.out (by
              have h1 : r * t ≤ 1048575 * 26214300 := Nat.mul_le_mul (by omega) (by omega)
              omega)
            have yR : IntKind.i64.wrap ((r : Int) * (t : Int)) = (R : Int) := by rw [← Int.natCast_mul, ← HRR.out]; exact i64_nn _ hRl
            have hR46 : R ≤ 27487790694400 := by
              have h1 : r * t ≤ 1048575 * 26214300 := Nat.mul_le_mul (by omega) (by omega)
              rw [HRR.out]
              omega
            have yO : IntKind.i64.wrap ((u : Int) + (O : Int)) = ((u + O : Nat) : Int) := i64_nn _ (by omega)
            obtain ⟨UO, hUO⟩ : ∃ UO, UO = u + O := ⟨_, rfl⟩
            rw [← hUO] at yO hkO
            have x5 : decide ((UO : Int) < (k : Int)) = false := by simp; omega
            have x6 : ¬ UO < k := by omega
            have co := Lib.hid (fun W => ref_over (R : Int) 1000000 (by unfold I64; omega) (by unfold I64; omega) W)
            rw [HO.out] at co
            have HX := Lib.hid (⟨yR, yO, x5, x6⟩ : _ ∧ _ ∧ _ ∧ _)
            clear yR yO x5 x6 hUO hkO hOR hRl hR46
            clear hkq lm lm2 hlm
            go_wp2_with fail
            ((with_reducible refine (pk_take_at p0 (OK.out l hl) iM.out.2 HT2.out HT1.out).mono ?_); rintro e V1 h)
            have b2 := h.keep HG.out b0 b0.size
            obtain ⟨rfl, p2, _⟩ := h
            clear b0 p0 c0 c1
            obtain ⟨yR, yO, x5, x6⟩ := HX.out
            go_wp2_with fail
            ((with_reducible refine (co.out _).mono ?_); rintro e w' ⟨rfl, rfl⟩)
            go_wp2_with fail
            go_roundw
            case rel => exact ⟨q + 1, k, t, by omega, by omega, by omega, by omega, rfl, rfl, by go_num, HZ1, Lib.hid ⟨_, p2, hl1', HB2.out, b2⟩⟩
            case measure => simp [intOf]; omega
        · have hl1' := hl
          have HB2 := HB
          by_cases hkq : kk ≤ (q : Int)
          · have HZ1 : Hid (((q + 1 : Nat) : Int) ≤ kk → k = 0 ∧ t = 0) := Lib.hid (fun h => by exfalso; omega)
            clear hkq
            obtain ⟨R, O, HRR, HO, hOR, hRl, hkO⟩ := bound_over HB2.out (by
              have h1 : r * t ≤ 1048575 * 26214300 := Nat.mul_le_mul (by omega) (by omega)
              omega)
            have yR : IntKind.i64.wrap ((r : Int) * (t : Int)) = (R : Int) := by rw [← Int.natCast_mul, ← HRR.out]; exact i64_nn _ hRl
            have hR46 : R ≤ 27487790694400 := by
              have h1 : r * t ≤ 1048575 * 26214300 := Nat.mul_le_mul (by omega) (by omega)
              rw [HRR.out]
              omega
            have yO : IntKind.i64.wrap ((u : Int) + (O : Int)) = ((u + O : Nat) : Int) := i64_nn _ (by omega)
            obtain ⟨UO, hUO⟩ : ∃ UO, UO = u + O := ⟨_, rfl⟩
            rw [← hUO] at yO hkO
            have x5 : decide ((UO : Int) < (k : Int)) = false := by simp; omega
            have x6 : ¬ UO < k := by omega
            have co := Lib.hid (fun W => ref_over (R : Int) 1000000 (by unfold I64; omega) (by unfold I64; omega) W)
            rw [HO.out] at co
            have HX := Lib.hid (⟨yR, yO, x5, x6⟩ : _ ∧ _ ∧ _ ∧ _)
            clear yR yO x5 x6 hUO hkO hOR hRl hR46
            clear lm lm2
            go_wp2_with fail
            ((with_reducible refine (pk_take_at p0 (OK.out l hl) iM.out.2 HT2.out HT1.out).mono ?_); rintro e V1 h)
            have b2 := h.keep HG.out b0 b0.size
            obtain ⟨rfl, p2, _⟩ := h
            clear b0 p0 c0 c1
            obtain ⟨yR, yO, x5, x6⟩ := HX.out
            go_wp2_with fail
            ((with_reducible refine (co.out _).mono ?_); rintro e w' ⟨rfl, rfl⟩)
            go_wp2_with fail
            go_roundw
            case rel => exact ⟨q + 1, k, t, by omega, by omega, by omega, by omega, rfl, rfl, by go_num, HZ1, Lib.hid ⟨_, p2, hl1', HB2.out, b2⟩⟩
            case measure => simp [intOf]; omega
          · have HZ1 : Hid (((q + 1 : Nat) : Int) ≤ kk → k = 0 ∧ t = 0) := Lib.hid (fun h => HZ.out (by omega))
            clear hkq
            obtain ⟨R, O, HRR, HO, hOR, hRl, hkO⟩ := bound_over HB2.out (by
              have h1 : r * t ≤ 1048575 * 26214300 := Nat.mul_le_mul (by omega) (by omega)
              omega)
            have yR : IntKind.i64.wrap ((r : Int) * (t : Int)) = (R : Int) := by rw [← Int.natCast_mul, ← HRR.out]; exact i64_nn _ hRl
            have hR46 : R ≤ 27487790694400 := by
              have h1 : r * t ≤ 1048575 * 26214300 := Nat.mul_le_mul (by omega) (by omega)
              rw [HRR.out]
              omega
            have yO : IntKind.i64.wrap ((u : Int) + (O : Int)) = ((u + O : Nat) : Int) := i64_nn _ (by omega)
            obtain ⟨UO, hUO⟩ : ∃ UO, UO = u + O := ⟨_, rfl⟩
            rw [← hUO] at yO hkO
            have x5 : decide ((UO : Int) < (k : Int)) = false := by simp; omega
            have x6 : ¬ UO < k := by omega
            have co := Lib.hid (fun W => ref_over (R : Int) 1000000 (by unfold I64; omega) (by unfold I64; omega) W)
            rw [HO.out] at co
            have HX := Lib.hid (⟨yR, yO, x5, x6⟩ : _ ∧ _ ∧ _ ∧ _)
            clear yR yO x5 x6 hUO hkO hOR hRl hR46
            clear lm lm2
            go_wp2_with fail
            ((with_reducible refine (pk_take_at p0 (OK.out l hl) iM.out.2 HT2.out HT1.out).mono ?_); rintro e V1 h)
            have b2 := h.keep HG.out b0 b0.size
            obtain ⟨rfl, p2, _⟩ := h
            clear b0 p0 c0 c1
            obtain ⟨yR, yO, x5, x6⟩ := HX.out
            go_wp2_with fail
            ((with_reducible refine (co.out _).mono ?_); rintro e w' ⟨rfl, rfl⟩)
            go_wp2_with fail
            go_roundw
            case rel => exact ⟨q + 1, k, t, by omega, by omega, by omega, by omega, rfl, rfl, by go_num, HZ1, Lib.hid ⟨_, p2, hl1', HB2.out, b2⟩⟩
            case measure => simp [intOf]; omega
    · have HS : Hid (¬ (q < n ∧ q < 100)) := Lib.hid hlt
      clear hlt
      have HG2 : Hid ((decide ((q : Int) < (n : Int)) = true ∧ decide ((q : Int) < 100) = false ∧ q < n) ∨ (decide ((q : Int) < (n : Int)) = false ∧ ¬ q < n)) := Lib.hid (by
        by_cases h : q < n
        · have hq30 : ¬ q < 100 := fun h2 => HS.out ⟨h, h2⟩
          exact .inl ⟨by simp; omega, by simp; omega, h⟩
        · exact .inr ⟨by simp; omega, h⟩)
      obtain ⟨mm, hmm, hmu⟩ : ∃ mm : Nat, mm = min u 100 ∧ mm ≤ u := ⟨min u 100, rfl, by omega⟩
      have x1 : (if (u : Int) < 100 then (u : Int) else 100) = (mm : Int) := by split <;> omega
      have x2 : (if (100 : Int) < (u : Int) then (100 : Int) else (u : Int)) = (mm : Int) := by split <;> omega
      have x3 : (if u < 100 then (u : Int) else 100) = (mm : Int) := by split <;> omega
      have x4 : (if 100 < u then (100 : Int) else (u : Int)) = (mm : Int) := by split <;> omega
      have HX := Lib.hid (⟨x1, x2, x3, x4⟩ : _ ∧ _ ∧ _ ∧ _)
      have iM := Lib.hid (show I64 (mm : Int) by unfold I64; omega)
      have HE := wait_end (show r ≤ 1048576 by omega) (show u ≤ 16384 by omega) hl hmu
      have HE2 : (Hid (waitN r u l (mm : Int) = -1) ∧ r = 0) ∨ ∃ w1 l1 : Nat, Hid (waitN r u l (mm : Int) = (w1 : Int)) ∧ Hid (tickN r u l (w1 : Int) = l1) ∧ Hid (takeB l1 (mm : Int) = true) ∧ l1 ≤ u * 1000000 ∧ Hid (I64 (w1 : Int)) := by
        rcases HE with h | ⟨w1, l1, h1, h2, h3, h4, h5⟩
        · exact .inl h
        · exact .inr ⟨w1, l1, h1, h3, Lib.hid (takeB_iff.2 h4), h5, Lib.hid (by unfold I64; omega)⟩
      clear HE x1 x2 x3 x4 hmm hmu HS hk ht
      rcases HG2.out with ⟨g1, g2, g3⟩ | ⟨g1, g2⟩
      · clear HG2
        obtain ⟨x1, x2, x3, x4⟩ := HX.out
        rcases HE2 with ⟨HV, hr0⟩ | ⟨w1, l1, HV, HT, HTB, hl1', iW⟩
        · subst hr0
          go_wp2_with fail
          ((with_reducible refine (pk_wait_at p0 (OK.out l hl) iM.out HV.out).mono ?_); rintro e V1 ⟨rfl, d⟩)
          have b1 := b0.trans (d.mono b0.size)
          clear d b0
          go_wp2_with fail
          ((with_reducible refine (known10_any _).mono ?_); rintro e WZ ⟨rfl, d⟩)
          have bz := b1.trans (d.mono b1.size)
          clear d b1
          go_wp2_with fail
          go_ret
          exact ⟨rfl, bz⟩
        · have hw0 : ¬ (w1 : Int) < 0 := by omega
          have hw1 : decide ((w1 : Int) < 0) = false := by rw [decide_eq_false_iff_not]; exact hw0
          go_wp2_with fail
          ((with_reducible refine (pk_wait_at p0 (OK.out l hl) iM.out HV.out).mono ?_); rintro e V1 ⟨rfl, d⟩)
          have b1 := b0.trans (d.mono b0.size)
          have p1 := p0.on d
          clear d b0 p0
          go_wp2_with fail
          ((with_reducible refine (pk_tick_at p1 (OK.out l hl) iW.out HT.out).mono ?_); rintro e V2 h)
          have b2 := h.keep HG.out b1 b1.size
          obtain ⟨rfl, p2, _⟩ := h
          clear b1 p1
          go_wp2_with fail
          ((with_reducible refine (pk_take_at p2 (OK.out l1 hl1') iM.out rfl HTB.out).mono ?_); rintro e V3 h)
          have b3 := h.keep HG.out b2 b2.size
          obtain ⟨rfl, p3, _⟩ := h
          clear b2 p2
          go_wp2_with fail
          ((with_reducible refine (known10_any _).mono ?_); rintro e WZ ⟨rfl, d⟩)
          have bz := b3.trans (d.mono b3.size)
          clear d b3
          go_wp2_with fail
          go_ret
          exact ⟨rfl, bz⟩
      · clear HG2
        obtain ⟨x1, x2, x3, x4⟩ := HX.out
        rcases HE2 with ⟨HV, hr0⟩ | ⟨w1, l1, HV, HT, HTB, hl1', iW⟩
        · subst hr0
          go_wp2_with fail
          ((with_reducible refine (pk_wait_at p0 (OK.out l hl) iM.out HV.out).mono ?_); rintro e V1 ⟨rfl, d⟩)
          have b1 := b0.trans (d.mono b0.size)
          clear d b0
          go_wp2_with fail
          ((with_reducible refine (known10_any _).mono ?_); rintro e WZ ⟨rfl, d⟩)
          have bz := b1.trans (d.mono b1.size)
          clear d b1
          go_wp2_with fail
          go_ret
          exact ⟨rfl, bz⟩
        · have hw0 : ¬ (w1 : Int) < 0 := by omega
          have hw1 : decide ((w1 : Int) < 0) = false := by rw [decide_eq_false_iff_not]; exact hw0
          go_wp2_with fail
          ((with_reducible refine (pk_wait_at p0 (OK.out l hl) iM.out HV.out).mono ?_); rintro e V1 ⟨rfl, d⟩)
          have b1 := b0.trans (d.mono b0.size)
          have p1 := p0.on d
          clear d b0 p0
          go_wp2_with fail
          ((with_reducible refine (pk_tick_at p1 (OK.out l hl) iW.out HT.out).mono ?_); rintro e V2 h)
          have b2 := h.keep HG.out b1 b1.size
          obtain ⟨rfl, p2, _⟩ := h
          clear b1 p1
          go_wp2_with fail
          ((with_reducible refine (pk_take_at p2 (OK.out l1 hl1') iM.out rfl HTB.out).mono ?_); rintro e V3 h)
          have b3 := h.keep HG.out b2 b2.size
          obtain ⟨rfl, p3, _⟩ := h
          clear b2 p2
          go_wp2_with fail
          ((with_reducible refine (known10_any _).mono ?_); rintro e WZ ⟨rfl, d⟩)
          have bz := b3.trans (d.mono b3.size)
          clear d b3
          go_wp2_with fail
          go_ret
          exact ⟨rfl, bz⟩
end Go.Proofs.Ytiacdjnaefnhpaa
