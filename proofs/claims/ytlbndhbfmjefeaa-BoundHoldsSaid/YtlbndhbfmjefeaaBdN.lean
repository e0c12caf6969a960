/- BoundHolds' walk. -/
import Derived.Test.YtlbndhbfmjefeaaBdH
import Derived.Test.YtlbndhbfmjefeaaRu
import Derived.BigQuiet
import Derived.Deep.QuietTactic
namespace Go.Proofs.Ytlbndhbfmjefeaa
open Go.RowKit
set_option linter.unusedVariables false
set_option linter.unusedSimpArgs false
set_option maxRecDepth 20000

theorem held_un {R : List Ln} (h : ∀ a ∈ R, a.In) : heldR (R.map unT) = R := by
  unfold heldR
  rw [List.map_map]
  refine (List.map_congr_left (g := id) fun a ha => ?_).trans (List.map_id R)
  exact hold_un (h a ha)
set_option maxHeartbeats 4000000 in
theorem boundHolds_walk (A : Option Addr) (n c : Nat) (nn : Int) (p : Nat) (A4 : Option Addr) (n4 c4 : Nat) (F : Nat → Nat) (w : World) (hr : RI w w.heap.size A n c) (hn : n ≤ 281474976710656) (hnn : I64 nn) (hp : p < 18446744073709551616) (h4 : RU w w.heap.size A4 n4 c4 F) (hn4 : n4 ≤ 281474976710656) :
    Calls Try.prog 5 #[.slice A n c, .int .i64 nn, .int .u64 (p : Int), .slice A4 n4 c4] w (Yes w) := by
  obtain ⟨k7, hk7, hk7l⟩ := bits_and_le nn 7 (by omega)
  replace hk7 : bits .and .i64 nn 7 = (k7 : Int) := hk7
  obtain ⟨k1, hk1⟩ : ∃ k1, k1 = 1 + k7 := ⟨_, rfl⟩
  have y1 : IntKind.i64.wrap (1 + (k7 : Int)) = (k1 : Int) := by rw [IntKind.wrap_i64]; omega
  have hk1l : k1 ≤ 8 := by omega
  have hk1p : 0 < k1 := by omega
  have HR := Lib.hid hr
  have HN := Lib.hid (⟨hn, hp, hn4⟩ : _ ∧ _ ∧ _)
  have H4 := Lib.hid h4
  clear hr h4 hnn hn hp hk7l hk1
  go_enter Try.func5, Try.ntmps5
  go_wp2_with fail
  ((with_reducible refine (row_any HR.out HN.out.1 k1 (by omega)).mono ?_); rintro e w1 ⟨vL, M, rfl, owL, hML, hsL, b1⟩)
  have hinM : ∀ x ∈ M, x.In := fun x hx => (hsL x hx).in_
  obtain ⟨AL, cL, hv, rL, _⟩ := owL.rt hinM
  rw [hML] at hv rL
  subst hv
  have HL := Lib.hid (fun W (hb : Below w1.heap.size w1 W) => rL.on hb)
  have HB1 := Lib.hid b1
  have hset := bd_set rL (by omega)
  have HM := Lib.hid (⟨hML, hinM⟩ : _ ∧ _)
  clear rL hsL hML owL b1 hk7 y1 hinM
  go_wp2_with fail
  ((with_reducible refine hset.mono ?_); rintro e w2 ⟨vS, R, rfl, hR, owS, b2⟩)
  have hinR : ∀ a ∈ R, a.In := fun a ha => heldR_in HM.out.2 a (bset_sub hR a ha)
  obtain ⟨AS, cS, hv, rS, _⟩ := owS.rt (unR_in hinR)
  obtain ⟨m, hm⟩ : ∃ m, m = R.length := ⟨_, rfl⟩
  rw [List.length_map, ← hm] at hv rS
  subst hv
  have hlM : (heldR M).length = k1 := by rw [← HM.out.1]; exact List.length_map ..
  have hmk : m ≤ k1 := by rw [← hlM, hm]; exact bset_len hR
  have hm0 : 0 < m := by
    obtain ⟨a, r, e, _⟩ := bset_pos hR (fun e => by rw [e] at hlM; simp at hlM; omega)
    rw [hm, e]
    simp
  have hm8 : m ≤ 8 := by omega
  have HX := Lib.hid (⟨hR, hinR, hm⟩ : _ ∧ _ ∧ _)
  have HS := Lib.hid (fun W (hb : Below w2.heap.size w2 W) => rS.on hb)
  have HLE := Lib.hid (fun X => (by rw [held_un hinR]; exact bset_lets hR 18446744073709551615 X : letA 18446744073709551615 X (heldR (R.map unT)) = letA 18446744073709551615 X (heldR M)))
  have HB2 := Lib.hid (⟨HB1.out.trans (b2.mono HB1.out.size), b2⟩ : Below w.heap.size w w2 ∧ Below w1.heap.size w1 w2)
  have t0 : ((m : Int) == 0) = false := by rw [beq_eq_false_iff_ne]; omega
  have t0' : ¬ (m : Int) = 0 := by omega
  have t1 : decide ((k1 : Int) < (m : Int)) = false := by simp; omega
  have t2 : decide (k1 < m) = false := by simp; omega
  clear hset hR owS b2 rS hm hlM hinR hmk
  go_wp2_with fail
  have hh := bd_holds (HS.out w2 (Below.refl _ _)) (by omega) HN.out.2.1
  rw [HLE.out] at hh
  obtain ⟨x, hx⟩ : ∃ x, x = letA 18446744073709551615 (8 * min p 4294967296) (heldR M) := ⟨_, rfl⟩
  rw [← hx] at hh
  ((with_reducible refine hh.mono ?_); rintro e w3 ⟨rfl, d3⟩)
  have HB3 := Lib.hid (⟨HB2.out.1.trans (d3.mono HB2.out.1.size), HB2.out.2.trans (d3.mono HB2.out.2.size), d3⟩ : _ ∧ _ ∧ _)
  have hl := bd_holds (HL.out w3 HB3.out.2.1) (by omega) HN.out.2.1
  rw [← hx] at hl
  clear d3 hh HB2 hx
  go_wp2_with fail
  ((with_reducible refine hl.mono ?_); rintro e w4 ⟨rfl, d4⟩)
  have HB4 := Lib.hid (⟨HB3.out.1.trans (d4.mono HB3.out.1.size), HB3.out.2.1.trans (d4.mono HB3.out.2.1.size), HB3.out.2.2.trans (d4.mono HB3.out.2.2.size)⟩ : Below w.heap.size w w4 ∧ Below w1.heap.size w1 w4 ∧ Below w2.heap.size w2 w4)
  clear d4 hl HB3
  go_wp2_with fail
  clear t0 t0' t1 t2
  go_loopw [11] (fun i wr => ∃ q : Nat, q ≤ n4 ∧ q ≤ 20 ∧ i = .int .i64 (q : Int) ∧ Below w4.heap.size w4 wr) (fun i _ => 20 - (intOf i).toNat)
  case atStart => exact ⟨0, by omega, by omega, rfl, Below.refl _ _⟩
  case round =>
    obtain ⟨q, hqn, hq, rfl, b5⟩ := hrel
    have HB5 := Lib.hid (⟨HB4.out.1.trans (b5.mono HB4.out.1.size), HB4.out.2.1.trans (b5.mono HB4.out.2.1.size), HB4.out.2.2.trans (b5.mono HB4.out.2.2.size), b5⟩ : Below w.heap.size w wr ∧ Below w1.heap.size w1 wr ∧ Below w2.heap.size w2 wr ∧ Below w4.heap.size w4 wr)
    clear b5
    by_cases hlt : q < n4 ∧ q < 20
    · obtain ⟨hl1, hl2⟩ := hlt
      have g1 : decide ((q : Int) < (n4 : Int)) = true := by simp; omega
      have g2 : decide ((q : Int) < 20) = true := by simp; omega
      have g3 : (q : Int) < (n4 : Int) := by omega
      have hru := H4.out.below HB5.out.1
      obtain ⟨b, off, rfl, hb, hc⟩ := hru.2.2 (by omega)
      have x0 := hc q hl1
      obtain ⟨y, hy, hyl⟩ := and64_le (F q : Int) 65535 (by omega)
      replace hy : bits .and .u64 (F q : Int) 65535 = (y : Int) := hy
      have hh := bd_holds (p := y) (HS.out wr HB5.out.2.2.1) (by omega) (by omega)
      rw [HLE.out] at hh
      obtain ⟨x, hx⟩ : ∃ x, x = letA 18446744073709551615 (8 * min y 4294967296) (heldR M) := ⟨_, rfl⟩
      rw [← hx] at hh
      generalize F q = fq at x0 hy
      clear hru hc hb
      go_wp2_with fail
      ((with_reducible refine hh.mono ?_); rintro e w6 ⟨rfl, d6⟩)
      have HB6 := Lib.hid (⟨HB5.out.1.trans (d6.mono HB5.out.1.size), HB5.out.2.1.trans (d6.mono HB5.out.2.1.size), HB5.out.2.2.2.trans (d6.mono HB5.out.2.2.2.size)⟩ : Below w.heap.size w w6 ∧ Below w1.heap.size w1 w6 ∧ Below w4.heap.size w4 w6)
      have hl := bd_holds (p := y) (HL.out w6 HB6.out.2.1) (by omega) (by omega)
      rw [← hx] at hl
      clear d6 hh hx hy x0
      go_wp2_with fail
      ((with_reducible refine hl.mono ?_); rintro e w7 ⟨rfl, d7⟩)
      have HB7 := Lib.hid (HB6.out.2.2.trans (d7.mono HB6.out.2.2.size))
      clear d7 hl
      go_wp2_with fail
      go_roundw
      case rel => exact ⟨q + 1, by omega, by omega, by go_num, HB7.out⟩
      case measure => simp [intOf]; omega
    · have HD : Hid (q = n4 ∨ q = 20) := Lib.hid (by omega)
      obtain ⟨wo, rfl⟩ : ∃ wo, wo = wr := ⟨_, rfl⟩
      have hend : ∀ b : Bool, True := fun _ => trivial
      rcases HD.out with he | he
      · have g1 : decide ((q : Int) < (n4 : Int)) = false := by simp; omega
        clear hlt
        go_wp2_with fail
        go_loopw [13, 64] (fun _ i wr => ∃ k : Nat, k ≤ m ∧ i = .int .i64 (k : Int) ∧ Below wo.heap.size wo wr) (fun _ i _ => m - (intOf i).toNat)
        case atStart => exact ⟨0, by omega, rfl, Below.refl _ _⟩
        case round =>
          obtain ⟨k, hk, rfl, b8⟩ := hrel
          have HB8 := Lib.hid (⟨HB5.out.1.trans (b8.mono HB5.out.1.size), HB5.out.2.2.1.trans (b8.mono HB5.out.2.2.1.size), b8⟩ : Below w.heap.size w wr ∧ Below w2.heap.size w2 wr ∧ Below wo.heap.size wo wr)
          clear b8
          by_cases hkl : k < m
          · have s1 : decide ((k : Int) < (m : Int)) = true := by simp; omega
            have s3 : (k : Int) < (m : Int) := by omega
            by_cases hk0 : k = 0
            · subst hk0
              have s2 : decide ((0 : Int) < ((0 : Nat) : Int)) = false := by simp
              go_upto_region 14 with (fail)
              go_quiet (fail)
              go_wp2_with fail
              go_roundw
              case rel => exact ⟨1, by omega, by go_num, HB8.out.2.2.trans ((belowDrewN wr _).mono HB8.out.2.2.size)⟩
              case measure => simp [intOf]; omega
            · obtain ⟨k0, hk0e⟩ : ∃ k0, k0 + 1 = k := ⟨k - 1, by omega⟩
              have s2 : decide ((0 : Int) < (k : Int)) = true := by simp; omega
              have s2n : decide (0 < k) = true := by simp; omega
              have y8 : IntKind.i64.wrap ((k : Int) - 1) = (k0 : Int) := by rw [IntKind.wrap_i64]; omega
              have hkR : k < R.length := by rw [← HX.out.2.2]; exact hkl
              have hk0R : k0 < R.length := by omega
              have hk0m : k0 < m := by omega
              have s4 : (k0 : Int) < (m : Int) := by omega
              obtain ⟨b, off, hA, hbb, c0, c1, c2⟩ := (HS.out wr HB8.out.2.1).at (q := k) (by rw [List.length_map]; exact hkR)
              obtain ⟨b', off', hA', hbb', d0, d1, d2⟩ := (HS.out wr HB8.out.2.1).at (q := k0) (by rw [List.length_map]; exact hk0R)
              clear c0 d0 hbb hbb'
              subst hA
              injection hA' with hA'
              injection hA' with eb eo
              subst eb eo
              rw [show (R.map unT)[k]'(by rw [List.length_map]; exact hkR) = unT R[k] by simp] at c1 c2
              rw [show (R.map unT)[k0]'(by rw [List.length_map]; exact hk0R) = unT R[k0] by simp] at d1 d2
              have hup := (List.pairwise_iff_getElem.1 (bset_rise HX.out.1)) k0 k hk0R hkR (by omega)
              generalize R[k] = xk at c1 c2 hup
              generalize R[k0] = x0 at d1 d2 hup
              obtain ⟨ao, ar, av⟩ := xk
              obtain ⟨zo, zr, zv⟩ := x0
              replace c1 : wr.cell? ⟨b, off + k * 3 + 1, none⟩ = some (.int .u64 (ar : Int)) := c1
              replace c2 : wr.cell? ⟨b, off + k * 3 + 2, none⟩ = some (.int .i64 (av : Int)) := c2
              replace d1 : wr.cell? ⟨b, off + k0 * 3 + 1, none⟩ = some (.int .u64 (zr : Int)) := d1
              replace d2 : wr.cell? ⟨b, off + k0 * 3 + 2, none⟩ = some (.int .i64 (zv : Int)) := d2
              replace hup : zv < av ∧ zr ≤ ar := hup
              have s5 : decide ((av : Int) ≤ (zv : Int)) = false := by simp; omega
              have s6 : decide ((ar : Int) < (zr : Int)) = false := by simp; omega
              have s5n : decide (av ≤ zv) = false := by simp; omega
              have s6n : decide (ar < zr) = false := by simp; omega
              have s7 : ¬ (av : Int) ≤ (zv : Int) := by omega
              have s8 : ¬ (ar : Int) < (zr : Int) := by omega
              have HKE := Lib.hid hk0e
              clear hk0e hup hkR hk0R hk0
              go_upto_region 14 with (fail)
              go_quiet (fail)
              go_wp2_with fail
              go_roundw
              case rel => exact ⟨k + 1, by omega, by go_num, HB8.out.2.2.trans ((belowDrewN wr _).mono HB8.out.2.2.size)⟩
              case measure => simp [intOf]; omega
          · have s1 : decide ((k : Int) < (m : Int)) = false := by simp; omega
            have hs := bd_set (HS.out wr HB8.out.2.1) (by omega)
            have hRR : BSet (heldR (R.map unT)) R := by rw [held_un HX.out.2.1]; exact bset_self HX.out.1
            have HRR := Lib.hid hRR
            clear hRR
            go_wp2_with fail
            ((with_reducible refine hs.mono ?_); rintro e w8 hS)
            obtain ⟨A7, c7, rfl, r7, b9⟩ := setOut_at hS (unR_in HX.out.2.1) HRR.out HX.out.2.2.symm
            have HB9 := Lib.hid (⟨HB8.out.1.trans (b9.mono HB8.out.1.size), HB8.out.2.1.trans (b9.mono HB8.out.2.1.size)⟩ : Below w.heap.size w w8 ∧ Below w2.heap.size w2 w8)
            have H7 := Lib.hid r7
            clear hS r7 b9 hs
            go_wp2_with fail
            ((with_reducible refine (tuples_yes H7.out (HS.out _ HB9.out.2) (by omega)).mono ?_); rintro e w9 ⟨rfl, d9⟩)
            have h9 := Lib.hid (HB9.out.1.trans (d9.mono HB9.out.1.size))
            clear d9
            go_wp2_with fail
            ((with_reducible refine (known13_any _).mono ?_); rintro e w10 ⟨rfl, d10⟩)
            have h10 := Lib.hid (h9.out.trans (d10.mono h9.out.size))
            clear d10
            go_wp2_with fail
            go_ret
            exact ⟨rfl, h10.out⟩
      · have g2 : decide ((q : Int) < 20) = false := by simp; omega
        by_cases hqn4 : q < n4
        · have g1 : decide ((q : Int) < (n4 : Int)) = true := by simp; omega
          clear hlt
          go_wp2_with fail
          go_loopw [13, 64] (fun _ i wr => ∃ k : Nat, k ≤ m ∧ i = .int .i64 (k : Int) ∧ Below wo.heap.size wo wr) (fun _ i _ => m - (intOf i).toNat)
          case atStart => exact ⟨0, by omega, rfl, Below.refl _ _⟩
          case round =>
            obtain ⟨k, hk, rfl, b8⟩ := hrel
            have HB8 := Lib.hid (⟨HB5.out.1.trans (b8.mono HB5.out.1.size), HB5.out.2.2.1.trans (b8.mono HB5.out.2.2.1.size), b8⟩ : Below w.heap.size w wr ∧ Below w2.heap.size w2 wr ∧ Below wo.heap.size wo wr)
            clear b8
            by_cases hkl : k < m
            · have s1 : decide ((k : Int) < (m : Int)) = true := by simp; omega
              have s3 : (k : Int) < (m : Int) := by omega
              by_cases hk0 : k = 0
              · subst hk0
                have s2 : decide ((0 : Int) < ((0 : Nat) : Int)) = false := by simp
                go_upto_region 14 with (fail)
                go_quiet (fail)
                go_wp2_with fail
                go_roundw
                case rel => exact ⟨1, by omega, by go_num, HB8.out.2.2.trans ((belowDrewN wr _).mono HB8.out.2.2.size)⟩
                case measure => simp [intOf]; omega
              · obtain ⟨k0, hk0e⟩ : ∃ k0, k0 + 1 = k := ⟨k - 1, by omega⟩
                have s2 : decide ((0 : Int) < (k : Int)) = true := by simp; omega
                have s2n : decide (0 < k) = true := by simp; omega
                have y8 : IntKind.i64.wrap ((k : Int) - 1) = (k0 : Int) := by rw [IntKind.wrap_i64]; omega
                have hkR : k < R.length := by rw [← HX.out.2.2]; exact hkl
                have hk0R : k0 < R.length := by omega
                have hk0m : k0 < m := by omega
                have s4 : (k0 : Int) < (m : Int) := by omega
                obtain ⟨b, off, hA, hbb, c0, c1, c2⟩ := (HS.out wr HB8.out.2.1).at (q := k) (by rw [List.length_map]; exact hkR)
                obtain ⟨b', off', hA', hbb', d0, d1, d2⟩ := (HS.out wr HB8.out.2.1).at (q := k0) (by rw [List.length_map]; exact hk0R)
                clear c0 d0 hbb hbb'
                subst hA
                injection hA' with hA'
                injection hA' with eb eo
                subst eb eo
                rw [show (R.map unT)[k]'(by rw [List.length_map]; exact hkR) = unT R[k] by simp] at c1 c2
                rw [show (R.map unT)[k0]'(by rw [List.length_map]; exact hk0R) = unT R[k0] by simp] at d1 d2
                have hup := (List.pairwise_iff_getElem.1 (bset_rise HX.out.1)) k0 k hk0R hkR (by omega)
                generalize R[k] = xk at c1 c2 hup
                generalize R[k0] = x0 at d1 d2 hup
                obtain ⟨ao, ar, av⟩ := xk
                obtain ⟨zo, zr, zv⟩ := x0
                replace c1 : wr.cell? ⟨b, off + k * 3 + 1, none⟩ = some (.int .u64 (ar : Int)) := c1
                replace c2 : wr.cell? ⟨b, off + k * 3 + 2, none⟩ = some (.int .i64 (av : Int)) := c2
                replace d1 : wr.cell? ⟨b, off + k0 * 3 + 1, none⟩ = some (.int .u64 (zr : Int)) := d1
                replace d2 : wr.cell? ⟨b, off + k0 * 3 + 2, none⟩ = some (.int .i64 (zv : Int)) := d2
                replace hup : zv < av ∧ zr ≤ ar := hup
                have s5 : decide ((av : Int) ≤ (zv : Int)) = false := by simp; omega
                have s6 : decide ((ar : Int) < (zr : Int)) = false := by simp; omega
                have s5n : decide (av ≤ zv) = false := by simp; omega
                have s6n : decide (ar < zr) = false := by simp; omega
                have s7 : ¬ (av : Int) ≤ (zv : Int) := by omega
                have s8 : ¬ (ar : Int) < (zr : Int) := by omega
                have HKE := Lib.hid hk0e
                clear hk0e hup hkR hk0R hk0
                go_upto_region 14 with (fail)
                go_quiet (fail)
                go_wp2_with fail
                go_roundw
                case rel => exact ⟨k + 1, by omega, by go_num, HB8.out.2.2.trans ((belowDrewN wr _).mono HB8.out.2.2.size)⟩
                case measure => simp [intOf]; omega
            · have s1 : decide ((k : Int) < (m : Int)) = false := by simp; omega
              have hs := bd_set (HS.out wr HB8.out.2.1) (by omega)
              have hRR : BSet (heldR (R.map unT)) R := by rw [held_un HX.out.2.1]; exact bset_self HX.out.1
              have HRR := Lib.hid hRR
              clear hRR
              go_wp2_with fail
              ((with_reducible refine hs.mono ?_); rintro e w8 hS)
              obtain ⟨A7, c7, rfl, r7, b9⟩ := setOut_at hS (unR_in HX.out.2.1) HRR.out HX.out.2.2.symm
              have HB9 := Lib.hid (⟨HB8.out.1.trans (b9.mono HB8.out.1.size), HB8.out.2.1.trans (b9.mono HB8.out.2.1.size)⟩ : Below w.heap.size w w8 ∧ Below w2.heap.size w2 w8)
              have H7 := Lib.hid r7
              clear hS r7 b9 hs
              go_wp2_with fail
              ((with_reducible refine (tuples_yes H7.out (HS.out _ HB9.out.2) (by omega)).mono ?_); rintro e w9 ⟨rfl, d9⟩)
              have h9 := Lib.hid (HB9.out.1.trans (d9.mono HB9.out.1.size))
              clear d9
              go_wp2_with fail
              ((with_reducible refine (known13_any _).mono ?_); rintro e w10 ⟨rfl, d10⟩)
              have h10 := Lib.hid (h9.out.trans (d10.mono h9.out.size))
              clear d10
              go_wp2_with fail
              go_ret
              exact ⟨rfl, h10.out⟩
        · have g1 : decide ((q : Int) < (n4 : Int)) = false := by simp; omega
          clear hlt
          go_wp2_with fail
          go_loopw [13, 64] (fun _ i wr => ∃ k : Nat, k ≤ m ∧ i = .int .i64 (k : Int) ∧ Below wo.heap.size wo wr) (fun _ i _ => m - (intOf i).toNat)
          case atStart => exact ⟨0, by omega, rfl, Below.refl _ _⟩
          case round =>
            obtain ⟨k, hk, rfl, b8⟩ := hrel
            have HB8 := Lib.hid (⟨HB5.out.1.trans (b8.mono HB5.out.1.size), HB5.out.2.2.1.trans (b8.mono HB5.out.2.2.1.size), b8⟩ : Below w.heap.size w wr ∧ Below w2.heap.size w2 wr ∧ Below wo.heap.size wo wr)
            clear b8
            by_cases hkl : k < m
            · have s1 : decide ((k : Int) < (m : Int)) = true := by simp; omega
              have s3 : (k : Int) < (m : Int) := by omega
              by_cases hk0 : k = 0
              · subst hk0
                have s2 : decide ((0 : Int) < ((0 : Nat) : Int)) = false := by simp
                go_upto_region 14 with (fail)
                go_quiet (fail)
                go_wp2_with fail
                go_roundw
                case rel => exact ⟨1, by omega, by go_num, HB8.out.2.2.trans ((belowDrewN wr _).mono HB8.out.2.2.size)⟩
                case measure => simp [intOf]; omega
              · obtain ⟨k0, hk0e⟩ : ∃ k0, k0 + 1 = k := ⟨k - 1, by omega⟩
                have s2 : decide ((0 : Int) < (k : Int)) = true := by simp; omega
                have s2n : decide (0 < k) = true := by simp; omega
                have y8 : IntKind.i64.wrap ((k : Int) - 1) = (k0 : Int) := by rw [IntKind.wrap_i64]; omega
                have hkR : k < R.length := by rw [← HX.out.2.2]; exact hkl
                have hk0R : k0 < R.length := by omega
                have hk0m : k0 < m := by omega
                have s4 : (k0 : Int) < (m : Int) := by omega
                obtain ⟨b, off, hA, hbb, c0, c1, c2⟩ := (HS.out wr HB8.out.2.1).at (q := k) (by rw [List.length_map]; exact hkR)
                obtain ⟨b', off', hA', hbb', d0, d1, d2⟩ := (HS.out wr HB8.out.2.1).at (q := k0) (by rw [List.length_map]; exact hk0R)
                clear c0 d0 hbb hbb'
                subst hA
                injection hA' with hA'
                injection hA' with eb eo
                subst eb eo
                rw [show (R.map unT)[k]'(by rw [List.length_map]; exact hkR) = unT R[k] by simp] at c1 c2
                rw [show (R.map unT)[k0]'(by rw [List.length_map]; exact hk0R) = unT R[k0] by simp] at d1 d2
                have hup := (List.pairwise_iff_getElem.1 (bset_rise HX.out.1)) k0 k hk0R hkR (by omega)
                generalize R[k] = xk at c1 c2 hup
                generalize R[k0] = x0 at d1 d2 hup
                obtain ⟨ao, ar, av⟩ := xk
                obtain ⟨zo, zr, zv⟩ := x0
                replace c1 : wr.cell? ⟨b, off + k * 3 + 1, none⟩ = some (.int .u64 (ar : Int)) := c1
                replace c2 : wr.cell? ⟨b, off + k * 3 + 2, none⟩ = some (.int .i64 (av : Int)) := c2
                replace d1 : wr.cell? ⟨b, off + k0 * 3 + 1, none⟩ = some (.int .u64 (zr : Int)) := d1
                replace d2 : wr.cell? ⟨b, off + k0 * 3 + 2, none⟩ = some (.int .i64 (zv : Int)) := d2
                replace hup : zv < av ∧ zr ≤ ar := hup
                have s5 : decide ((av : Int) ≤ (zv : Int)) = false := by simp; omega
                have s6 : decide ((ar : Int) < (zr : Int)) = false := by simp; omega
                have s5n : decide (av ≤ zv) = false := by simp; omega
                have s6n : decide (ar < zr) = false := by simp; omega
                have s7 : ¬ (av : Int) ≤ (zv : Int) := by omega
                have s8 : ¬ (ar : Int) < (zr : Int) := by omega
                have HKE := Lib.hid hk0e
                clear hk0e hup hkR hk0R hk0
                go_upto_region 14 with (fail)
                go_quiet (fail)
                go_wp2_with fail
                go_roundw
                case rel => exact ⟨k + 1, by omega, by go_num, HB8.out.2.2.trans ((belowDrewN wr _).mono HB8.out.2.2.size)⟩
                case measure => simp [intOf]; omega
            · have s1 : decide ((k : Int) < (m : Int)) = false := by simp; omega
              have hs := bd_set (HS.out wr HB8.out.2.1) (by omega)
              have hRR : BSet (heldR (R.map unT)) R := by rw [held_un HX.out.2.1]; exact bset_self HX.out.1
              have HRR := Lib.hid hRR
              clear hRR
              go_wp2_with fail
              ((with_reducible refine hs.mono ?_); rintro e w8 hS)
              obtain ⟨A7, c7, rfl, r7, b9⟩ := setOut_at hS (unR_in HX.out.2.1) HRR.out HX.out.2.2.symm
              have HB9 := Lib.hid (⟨HB8.out.1.trans (b9.mono HB8.out.1.size), HB8.out.2.1.trans (b9.mono HB8.out.2.1.size)⟩ : Below w.heap.size w w8 ∧ Below w2.heap.size w2 w8)
              have H7 := Lib.hid r7
              clear hS r7 b9 hs
              go_wp2_with fail
              ((with_reducible refine (tuples_yes H7.out (HS.out _ HB9.out.2) (by omega)).mono ?_); rintro e w9 ⟨rfl, d9⟩)
              have h9 := Lib.hid (HB9.out.1.trans (d9.mono HB9.out.1.size))
              clear d9
              go_wp2_with fail
              ((with_reducible refine (known13_any _).mono ?_); rintro e w10 ⟨rfl, d10⟩)
              have h10 := Lib.hid (h9.out.trans (d10.mono h9.out.size))
              clear d10
              go_wp2_with fail
              go_ret
              exact ⟨rfl, h10.out⟩
end Go.Proofs.Ytlbndhbfmjefeaa
