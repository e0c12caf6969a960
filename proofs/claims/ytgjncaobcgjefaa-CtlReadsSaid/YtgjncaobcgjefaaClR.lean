/- Contracts: octet.Cut (what it answers is new), ctl.readLayer. -/
import Derived.Test.YtgjncaobcgjefaaClP
import Derived.Test.YtgjncaobcgjefaaCtM
import Derived.Test.YtgjncaobcgjefaaCtX
import Derived.Test.YtgjncaobcgjefaaNa
namespace Go.Proofs.Ytgjncaobcgjefaa
open Go.RowKit
set_option linter.unusedVariables false
set_option linter.unusedSimpArgs false
set_option maxRecDepth 20000

theorem getN_lt (x : List UInt8) (i : Int) (k : Nat) : getN x i k < 256 ^ k := by
  unfold getN
  split
  · have h1 := num_lt ((x.drop i.toNat).take k)
    have h2 : ((x.drop i.toNat).take k).length ≤ k := by rw [List.length_take]; omega
    exact Nat.lt_of_lt_of_le h1 (Nat.pow_le_pow_right (by omega) h2)
  · exact Nat.pos_of_ne_zero (by simp)
theorem cut8_six (x : List UInt8) : cut8 x 6 ((x.length : Int) - 6) = x.drop 6 := by
  unfold cut8 thB
  by_cases h : 6 ≤ x.length
  · rw [if_pos (by simp; omega)]
    rw [show ((x.length : Int) - 6).toNat = x.length - 6 by omega]
    show (x.drop 6).take (x.length - 6) = x.drop 6
    rw [List.take_of_length_le (by simp)]
  · rw [if_neg (by simp; omega), List.drop_eq_nil_of_le (by omega)]
set_option maxHeartbeats 4000000 in
theorem readLayer_any (A : Option Addr) (n c : Nat) (x : List UInt8) (w : World) (h : R8 w w.heap.size A n c x) (hn : n ≤ 100000) : Calls Try.prog 52 #[.slice A n c] w (Ans (layX x).val w) := by
  have hx := h.1
  have hS : getN x 0 4 < 4294967296 := getN_lt x 0 4
  have hH : getN x 4 2 < 65536 := getN_lt x 4 2
  have EL : Hid ((layX x) = ⟨⟨(x.drop 6).toArray⟩, getN x 0 4 % 4294967296, (getN x 4 2 : Nat)⟩) := Lib.hid rfl
  have e6 := cut8_six x
  rw [hx] at e6
  have hb0 := below_alloc w (.cells zL.cells.toArray 46)
  have hB0 := Blk.new w 46 zL.cells.toArray
  have r0 := h.on hb0
  have hg1 := get_any A n c x _ r0 (by omega) 0 4 (by unfold I64; omega)
  have hg2 := get_any A n c x _ r0 (by omega) 4 2 (by unfold I64; omega)
  have hc := cut_any A n c x _ r0 (by omega) 6 ((n : Int) - 6) (by unfold I64; omega)
  rw [e6] at hc
  obtain ⟨S, hSe⟩ : ∃ S, S = getN x 0 4 := ⟨_, rfl⟩
  obtain ⟨H, hHe⟩ : ∃ H, H = getN x 4 2 := ⟨_, rfl⟩
  rw [← hSe] at hS hg1 EL
  rw [← hHe] at hH hg2 EL
  obtain ⟨D, hD⟩ : ∃ D, D = x.drop 6 := ⟨_, rfl⟩
  rw [← hD] at hc EL
  clear hSe hHe hD e6 r0 h
  have eS : S % 4294967296 = S := by omega
  rw [eS] at EL
  have e1 : (S : Int) % 4294967296 = (S : Int) := by omega
  have y1 : IntKind.u32.wrap (S : Int) = (S : Int) := by simp [IntKind.wrap, IntKind.signed, IntKind.bits]; omega
  have y2 : IntKind.i64.wrap (H : Int) = (H : Int) := by rw [IntKind.wrap_i64]; omega
  generalize layX x = R at EL ⊢
  have HX := Lib.hid hx
  clear hx eS
  generalize getB n 0 4 = B1 at hg1
  generalize getB n 4 2 = B2 at hg2
  generalize thB n 6 ((n : Int) - 6) = B3 at hc
  simp only [zL, Lay.cells] at hb0 hB0 hg1 hg2 hc
  go_enter Try.func52, Try.ntmps52
  go_wp2_with fail
  refine hg1.mono ?_
  rintro e w' ⟨rfl, rfl⟩
  go_wp2_with fail
  refine hg2.mono ?_
  rintro e w' ⟨rfl, rfl⟩
  clear hg1 hg2
  have e9 : IntKind.i64.wrap ((n : Int) - 6) = (n : Int) - 6 := by rw [IntKind.wrap_i64]; omega
  go_wp2_with fail
  refine hc.mono ?_
  rintro e w3 ⟨A3, m3, c3, rfl, r3, b3⟩
  have hB3 := hB0.below b3 hB0.lt
  have hb3 := hb0.trans (b3.mono hb0.size)
  obtain ⟨⟨k0, k1, k2⟩, f0, f1, f2⟩ := blk3 hB3
  have hst := r3.string 30 5 9 (P := Try.prog) Try.underlying30 Try.underlying5 Try.underlying9
  have hgl := hB3.lt
  have bs := hb3.trans ((set3_below (W := w3) (R := w.heap.size) (v0 := .string ⟨D.toArray⟩) (v1 := .int .u32 (S : Int)) (v2 := .int .i64 (H : Int)) (Nat.le_refl _)))
  have hBs := set3_blk (v0 := .string ⟨D.toArray⟩) (v1 := .int .u32 (S : Int)) (v2 := .int .i64 (H : Int)) hB3
  clear hc r3 b3 hB0 hb0 e9
  go_wp2_with fail
  have hq := (blk3 hBs).1
  change bodyPost _ _ _ _ _ (set3 w3 w.heap.size (.string ⟨D.toArray⟩) (.int .u32 (S : Int)) (.int .i64 (H : Int)))
  generalize set3 w3 w.heap.size (.string ⟨D.toArray⟩) (.int .u32 (S : Int)) (.int .i64 (H : Int)) = W4 at bs hq ⊢
  obtain ⟨q0, q1, q2⟩ := hq
  refine bodyPost_ret (v := .agg #[.string ⟨D.toArray⟩, .int .u32 (S : Int), .int .i64 (H : Int)]) (by simp [results, Try.results52, go_sem, q0, q1, q2]; try rfl) rfl ?_
  exact ⟨by rw [EL.out], bs⟩
end Go.Proofs.Ytgjncaobcgjefaa
