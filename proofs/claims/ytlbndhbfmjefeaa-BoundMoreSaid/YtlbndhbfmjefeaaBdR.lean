/- Law 13's helper: same. -/
import Derived.Test.YtlbndhbfmjefeaaBdQ
namespace Go.Proofs.Ytlbndhbfmjefeaa
open Go.RowKit
set_option linter.unusedVariables false
set_option linter.unusedSimpArgs false
set_option maxRecDepth 20000

theorem rateV_ex (ls : List Ln) : ∃ (a : Nat) (b : Bool), rateV ls = .tuple #[.int .u64 (a : Int), .bool b] := by
  by_cases h : ls.length = 0
  · exact ⟨0, false, rateV_no h⟩
  · exact ⟨minR ls, true, rateV_yes h⟩
/-- .. at an answer that is known. -/
theorem setOut_at {l : List Tup} {w : World} {e : Ending} {w' : World} {R : List Ln} (h : SetOut l w e w') (hi : ∀ t ∈ l, t.In) (hR : BSet (heldR l) R) {m : Nat} (hm : R.length = m) : ∃ A c, e = .returned (.slice A m c) ∧ RT w' w'.heap.size A m c (R.map unT) ∧ Below w.heap.size w w' := by
  obtain ⟨v, R', rfl, hR', ow, hb⟩ := h
  rw [bset_one hR' hR] at ow
  obtain ⟨A', c', rfl, r, _⟩ := ow.rt (unR_in (fun a ha => heldR_in hi a (bset_sub hR a ha)))
  rw [List.length_map, hm] at r ⊢
  exact ⟨A', c', rfl, r, hb⟩
def anyO (R : List Ln) (j q : Nat) : Bool := (R.take j).any fun t => t.o == q
theorem anyO_more {R : List Ln} {j q : Nat} (h : j < R.length) : anyO R (j + 1) q = (anyO R j q || R[j].o == q) := by
  unfold anyO
  rw [List.take_succ_eq_append_getElem h, List.any_append]
  simp
theorem anyO_all {R : List Ln} {q : Nat} : anyO R R.length q = R.any fun t => t.o == q := by
  unfold anyO
  rw [List.take_length]
set_option maxHeartbeats 4000000 in
theorem same13_any {A : Option Addr} {n c : Nat} {l : List Tup} {w : World} (h : RT w w.heap.size A n c l) (hn : n ≤ 100000) {p : Nat} (hp : p < 18446744073709551616) :
    Calls Try.prog 10 #[.slice A n c, .int .u64 (p : Int)] w (Yes w) := by
  have hs0 := ref_set13 A n c l w h (by omega)
  have HR0 := Lib.hid (fun W (hb : Below w.heap.size w W) => h.on hb)
  have HI := Lib.hid h.2.1
  obtain ⟨ra, rb, hrv⟩ := rateV_ex (heldR l)
  have HV := Lib.hid hrv
  have HN := Lib.hid hn
  have HP := Lib.hid hp
  clear h hrv hn hp
  go_enter Try.func10, Try.ntmps10
  go_wp2_with fail
  ((with_reducible refine hs0.mono ?_); rintro e w1 ⟨v, R, rfl, hR, ow, b1⟩)
  obtain ⟨As, cs, hv, rs, _⟩ := ow.rt (unR_in (fun a ha => heldR_in HI.out a (bset_sub hR a ha)))
  obtain ⟨m, hm⟩ : ∃ m, m = R.length := ⟨_, rfl⟩
  rw [List.length_map, ← hm] at hv rs
  subst hv
  have hmB : m ≤ 100000 := by
    have h1 := bset_len hR
    have h2 : (heldR l).length = n := by unfold heldR; rw [List.length_map]; exact (HR0.out w (Below.refl _ _)).1
    have h3 := HN.out
    omega
  have HR := Lib.hid hR
  have HM := Lib.hid hm
  have HS0 := Lib.hid (fun W (hb : Below w1.heap.size w1 W) => rs.on hb)
  have HB1 := Lib.hid b1
  clear hs0 hR ow b1 rs hm
  go_wp2_with fail
  ((with_reducible refine (bd_rate_at (HR0.out _ HB1.out) HN.out HV.out).mono ?_); rintro e w2 ⟨rfl, d2⟩)
  have HB2 := Lib.hid (⟨HB1.out.trans (d2.mono HB1.out.size), d2⟩ : _ ∧ _)
  clear d2
  go_wp2_with fail
  have hr3 := ref_rate13 A n c l w2 (HR0.out _ HB2.out.1) (by have := HN.out; omega)
  rw [HV.out] at hr3
  ((with_reducible refine hr3.mono ?_); rintro e w3 ⟨rfl, d3⟩)
  have HB3 := Lib.hid (⟨HB2.out.1.trans (d3.mono HB2.out.1.size), HB2.out.2.trans (d3.mono HB2.out.2.size)⟩ : Below w.heap.size w w3 ∧ Below w1.heap.size w1 w3)
  clear d3 hr3
  go_wp2_with fail
  go_loopw [10] (fun i wr => ∃ q : Nat, q ≤ 10 ∧ i = .int .u32 (q : Int) ∧ Below w3.heap.size w3 wr) (fun i _ => 10 - (intOf i).toNat)
  case atStart => exact ⟨0, by omega, rfl, Below.refl _ _⟩
  case round =>
    obtain ⟨q, hq, rfl, b4⟩ := hrel
    have HB4 := Lib.hid b4
    clear b4
    obtain ⟨wo, rfl⟩ : ∃ wo, wo = wr := ⟨_, rfl⟩
    by_cases hlt : q < 10
    · have g1 : decide ((q : Int) < 10) = true := by simp; omega
      have g3 : (q : Int) < 10 := by omega
      go_wp2_with fail
      go_loopw [11, 32] (fun v j wi => ∃ k : Nat, k ≤ m ∧ j = .int .i64 (k : Int) ∧ v = .bool (anyO R k q) ∧ Below wo.heap.size wo wi) (fun _ j _ => m - (intOf j).toNat)
      case atStart => exact ⟨0, by omega, rfl, rfl, Below.refl _ _⟩
      case round =>
        obtain ⟨k, hk, rfl, rfl, b5⟩ := hrel
        have HB5 := Lib.hid b5
        clear b5
        by_cases hlk : k < m
        · have g4 : decide ((k : Int) < (m : Int)) = true := by simp; omega
          have g5 : (k : Int) < (m : Int) := by omega
          have hkR : k < R.length := by rw [← HM.out]; exact hlk
          have hbi : Below w1.heap.size w1 wr := (HB3.out.2.trans (HB4.out.mono HB3.out.2.size)).trans (HB5.out.mono (Nat.le_trans HB3.out.2.size HB4.out.size))
          obtain ⟨b, off, rfl, _, c0, c1, c2⟩ := (HS0.out wr hbi).at (q := k) (by rw [List.length_map]; exact hkR)
          have hmo := anyO_more (q := q) hkR
          rw [show (R.map unT)[k]'(by rw [List.length_map]; exact hkR) = unT R[k] by simp] at c0 c1 c2
          generalize R[k] = x at c0 c1 c2 hmo
          obtain ⟨xo, xr, xv⟩ := x
          replace c0 : wr.cell? ⟨b, off + k * 3, none⟩ = some (.int .u32 (xo : Int)) := c0
          replace c1 : wr.cell? ⟨b, off + k * 3 + 1, none⟩ = some (.int .u64 (xr : Int)) := c1
          replace c2 : wr.cell? ⟨b, off + k * 3 + 2, none⟩ = some (.int .i64 (xv : Int)) := c2
          have HB6 := Lib.hid (HB5.out.trans ((belowA wr (.cells #[.int .u32 (xo : Int), .int .u64 (xr : Int), .int .i64 (xv : Int)] 30)).mono HB5.out.size))
          clear hkR hbi
          generalize anyO R k q = bI at hmo
          cases bI with
          | true =>
            have HMO := Lib.hid hmo
            clear hmo
            go_wp2_with fail
            go_roundw
            case rel => exact ⟨k + 1, by omega, by go_num, by simp [HMO.out], HB6.out⟩
            case measure => simp [intOf]; omega
          | false =>
            by_cases ho : xo = q
            · have HMO : Hid (anyO R (k + 1) q = true) := Lib.hid (by rw [hmo]; simp [ho])
              subst ho
              clear hmo
              go_wp2_with fail
              go_roundw
              case rel => exact ⟨k + 1, by omega, by go_num, by simp [HMO.out], HB6.out⟩
              case measure => simp [intOf]; omega
            · have HMO : Hid (anyO R (k + 1) q = false) := Lib.hid (by rw [hmo]; simp [ho])
              have t1 : decide ((xo : Int) = (q : Int)) = false := by simp; omega
              have t2 : ¬ (xo : Int) = (q : Int) := by omega
              have t3 : ((xo : Int) == (q : Int)) = false := by rw [beq_eq_false_iff_ne]; exact t2
              clear hmo
              go_wp2_with fail
              go_roundw
              case rel => exact ⟨k + 1, by omega, by go_num, by simp [HMO.out], HB6.out⟩
              case measure => simp [intOf]; omega
        · have g4 : decide ((k : Int) < (m : Int)) = false := by simp; omega
          have hkm : k = m := by omega
          subst hkm
          have hx : (R.any fun t => t.o == q) = anyO R k q := by rw [HM.out, anyO_all]
          generalize anyO R k q = bo at hx ⊢
          have hbw := Lib.hid (HB4.out.trans (HB5.out.mono HB4.out.size))
          have hbw0 := Lib.hid (HB3.out.1.trans (hbw.out.mono HB3.out.1.size))
          have HX := Lib.hid hx
          clear hx
          go_wp2_with fail
          ((with_reducible refine (bd_owns_at (o := q) (HR0.out _ hbw0.out) HN.out rfl (by omega) HR.out HX.out).mono ?_); rintro e w6 ⟨rfl, d6⟩)
          have HB6 := Lib.hid (hbw.out.trans (d6.mono hbw.out.size))
          clear d6
          cases bo with
          | true =>
            go_wp2_with fail
            go_roundw
            case rel => exact ⟨q + 1, by omega, by go_num, HB6.out⟩
            case measure => simp [intOf]; omega
          | false =>
            go_wp2_with fail
            go_roundw
            case rel => exact ⟨q + 1, by omega, by go_num, HB6.out⟩
            case measure => simp [intOf]; omega
    · have g1 : decide ((q : Int) < 10) = false := by simp; omega
      have g3 : ¬ (q : Int) < 10 := by omega
      have hb := Lib.hid (⟨HB3.out.1.trans (HB4.out.mono HB3.out.1.size), HB3.out.2.trans (HB4.out.mono HB3.out.2.size)⟩ : Below w.heap.size w wo ∧ Below w1.heap.size w1 wo)
      go_wp2_with fail
      ((with_reducible refine (bd_set (HR0.out _ hb.out.1) HN.out).mono ?_); rintro e w7 hS)
      obtain ⟨A7, c7, rfl, r7, b7⟩ := setOut_at hS HI.out HR.out HM.out.symm
      have hb7 := Lib.hid (⟨hb.out.1.trans (b7.mono hb.out.1.size), hb.out.2.trans (b7.mono hb.out.2.size)⟩ : Below w.heap.size w w7 ∧ Below w1.heap.size w1 w7)
      have H7 := Lib.hid r7
      clear hS r7 b7
      go_wp2_with fail
      ((with_reducible refine (tuples_yes H7.out (HS0.out _ hb7.out.2) (by omega)).mono ?_); rintro e w8 ⟨rfl, d8⟩)
      have hb8 := Lib.hid (hb7.out.1.trans (d8.mono hb7.out.1.size))
      clear d8
      go_wp2_with fail
      ((with_reducible refine (bd_holds (HR0.out _ hb8.out) HN.out HP.out).mono ?_); rintro e w9 ⟨rfl, d9⟩)
      have hb9 := Lib.hid (hb8.out.trans (d9.mono hb8.out.size))
      obtain ⟨x, hx⟩ : ∃ x, x = letA 18446744073709551615 (8 * min p 4294967296) (heldR l) := ⟨_, rfl⟩
      have hh := ref_holds13 A n c l p w9 (HR0.out _ hb9.out) (by have := HN.out; omega) HP.out
      rw [← hx] at hh ⊢
      clear d9 hx
      go_wp2_with fail
      ((with_reducible refine hh.mono ?_); rintro e w10 ⟨rfl, d10⟩)
      have hb10 := Lib.hid (hb9.out.trans (d10.mono hb9.out.size))
      clear d10 hh
      go_wp2_with fail
      go_ret
      exact ⟨rfl, hb10.out⟩
end Go.Proofs.Ytlbndhbfmjefeaa
