/- Contract: limelightref13.Holds. -/
import Derived.Test.YtlbndhbfmjefeaaBdF
namespace Go.Proofs.Ytlbndhbfmjefeaa
open Go.RowKit
set_option linter.unusedVariables false
set_option linter.unusedSimpArgs false
set_option maxRecDepth 20000

theorem mul_y3 (tv X : Nat) (h : tv * (8 * X) < 18446744073709551616) : IntKind.u64.wrap (((8 * tv : Nat) : Int) * (X : Int)) = ((tv * (8 * X) : Nat) : Int) := by
  rw [show ((8 * tv : Nat) : Int) * (X : Int) = ((tv * (8 * X) : Nat) : Int) by push_cast; rw [Int.mul_comm 8 (tv : Int), Int.mul_assoc], IntKind.wrap_u64]
  omega
set_option maxHeartbeats 4000000 in
theorem ref_holds13 (A : Option Addr) (n c : Nat) (l : List Tup) (p : Nat) (w : World) (h : RT w w.heap.size A n c l) (hn : n ≤ 1000000) (hp : p < 18446744073709551616) :
    Calls Try.prog 20 #[.slice A n c, .int .u64 (p : Int)] w (AnsB (.int .u64 ((letA 18446744073709551615 (8 * min p 4294967296) (heldR l) : Nat) : Int)) w) := by
  have hc := ref_all A n c l w h hn
  have hli := heldR_in h.2.1
  have hll : (heldR l).length = n := by rw [← h.1]; exact List.length_map ..
  obtain ⟨ls, hls⟩ : ∃ ls, ls = heldR l := ⟨_, rfl⟩
  rw [← hls] at hc hli hll
  have HLS := Lib.hid hls
  have HI := Lib.hid hli
  have HL := Lib.hid hll
  clear h hli hls hll
  obtain ⟨x, hx⟩ : ∃ x, x = min p 4294967296 := ⟨_, rfl⟩
  rw [← hx]
  have hx32 : x ≤ 4294967296 := by omega
  rw [← HLS.out]
  obtain ⟨F, hF⟩ : ∃ F : List Ln → Nat, F = letA 18446744073709551615 (8 * x) := ⟨_, rfl⟩
  rw [← hF]
  have HF : Hid (F [] = 18446744073709551615 ∧ (∀ l t, F (l ++ [t]) = min (F l) (letL (8 * x) t)) ∧ ∀ l, F l ≤ 18446744073709551615) := Lib.hid (by
    rw [hF]
    exact ⟨rfl, fun l t => letA_snoc _ _ l t, fun l => letA_top l⟩)
  clear hF
  have hpx : (p ≤ 4294967296 ∧ p = x) ∨ (4294967296 < p ∧ x = 4294967296) := by omega
  clear hx
  rcases hpx with ⟨hp2, rfl⟩ | ⟨hp2, rfl⟩
  · have w1 : (p : Int) ≤ 4294967296 := by omega
    have w2 : ¬ (4294967296 : Int) < (p : Int) := by omega
    go_enter Try.func20, Try.ntmps20
    go_wp2_with fail
    ((with_reducible refine hc.mono ?_); rintro e W1 ⟨v1, rfl, o1, b1⟩)
    obtain ⟨A1, c1, rfl, r1, _⟩ := o1.rt (unR_in HI.out)
    rw [List.length_map, HL.out] at r1
    rw [List.length_map, HL.out]
    have HR := Lib.hid r1
    have HB1 := Lib.hid b1
    clear hc o1 r1 b1
    clear w1 w2 hp2
    go_wp2_with fail
    go_loopw [6, 15] (fun v i wr => ∃ q : Nat, q ≤ n ∧ i = .int .i64 (q : Int) ∧ v = .int .u64 ((F (ls.take q) : Nat) : Int) ∧ Hid (Below W1.heap.size W1 wr)) (fun _ i _ => n - (intOf i).toNat)
    case atStart => exact ⟨0, by omega, rfl, by rw [show ls.take 0 = [] from rfl, HF.out.1]; rfl, Lib.hid (Below.refl _ _)⟩
    case round =>
      obtain ⟨q, hq, rfl, rfl, HM⟩ := hrel
      by_cases hlt : q < n
      · have hql : q < ls.length := by rw [HL.out]; exact hlt
        obtain ⟨bA, off, rfl, hbA, c0, c1', c2⟩ := (HR.out.below HM.out).at (q := q) (by simpa using hql)
        simp only [List.getElem_map] at c0 c1' c2
        have HT : Hid (ls.take (q + 1) = ls.take q ++ [ls[q]]) := Lib.hid (List.take_succ_eq_append_getElem hql)
        have hti := HI.out ls[q] (List.getElem_mem hql)
        generalize ls[q] = t at c0 c1' c2 HT hti
        obtain ⟨to_, tr, tv⟩ := t
        obtain ⟨ht1, ht2, ht3⟩ := hti
        replace c0 : wr.cell? ⟨bA, off + q * 3, none⟩ = some (.int .u32 (to_ : Int)) := c0
        replace c1' : wr.cell? ⟨bA, off + q * 3 + 1, none⟩ = some (.int .u64 (tr : Int)) := c1'
        replace c2 : wr.cell? ⟨bA, off + q * 3 + 2, none⟩ = some (.int .i64 (tv : Int)) := c2
        simp only at ht1 ht2 ht3
        have HB9 : Hid (Below W1.heap.size W1 (wr.alloc (.cells #[.int .u32 (to_ : Int), .int .u64 (tr : Int), .int .i64 (tv : Int)] 30))) := Lib.hid (HM.out.trans ((belowA wr _).mono HM.out.size))
        have g1 : (q : Int) < (n : Int) := by omega
        clear hbA hql hlt ht1 HM
        have hs : F (ls.take (q + 1)) = min (F (ls.take q)) (tr - tv * (8 * p)) := by rw [HT.out, HF.out.2.1]; rfl
        have HS := Lib.hid hs
        have hm9 := HF.out.2.2 (ls.take q)
        clear hs
        generalize F (ls.take q) = m at *
        have y1 : tv * (8 * p) ≤ 511 * (8 * 4294967296) := Nat.mul_le_mul ht3 (by omega)
        have y2 : IntKind.u64.wrap (8 * (tv : Int)) = ((8 * tv : Nat) : Int) := by rw [IntKind.wrap_u64]; omega
        have y3 : IntKind.u64.wrap (((8 * tv : Nat) : Int) * (p : Int)) = ((tv * (8 * p) : Nat) : Int) := mul_y3 tv p (by omega)
        obtain ⟨L8, hL8⟩ : ∃ L8, L8 = 8 * tv := ⟨_, rfl⟩
        obtain ⟨L, hL⟩ : ∃ L, L = tv * (8 * p) := ⟨_, rfl⟩
        rw [← hL8] at y2 y3
        rw [← hL] at y3 y1 HS
        clear hL8 hL
        by_cases hLt : tr < L
        · have k1 : (tr : Int) < (L : Int) := by omega
          have k2 : ¬ (L : Int) ≤ (tr : Int) := by omega
          have k3 : IntKind.u64.wrap ((tr : Int) - (tr : Int)) = ((0 : Nat) : Int) := by rw [IntKind.wrap_u64]; omega
          have HE : Hid (F (ls.take (q + 1)) = 0) := Lib.hid (by rw [HS.out]; omega)
          by_cases hm0 : m ≤ 0
          · have k4 : (m : Int) ≤ ((0 : Nat) : Int) := by omega
            have hmz : m = 0 := by omega
            go_wp2_with fail
            go_roundw
            case rel => exact ⟨q + 1, by omega, by go_num, by rw [HE.out]; first | done | (subst hmz; rfl) | rfl, HB9⟩
            case measure => simp [intOf]; omega
          · have k4 : ¬ (m : Int) ≤ ((0 : Nat) : Int) := by omega
            go_wp2_with fail
            go_roundw
            case rel => exact ⟨q + 1, by omega, by go_num, by rw [HE.out] <;> rfl, HB9⟩
            case measure => simp [intOf]; omega
        · have k1 : ¬ (tr : Int) < (L : Int) := by omega
          have k2 : (L : Int) ≤ (tr : Int) := by omega
          have k3 : IntKind.u64.wrap ((tr : Int) - (L : Int)) = ((tr - L : Nat) : Int) := by rw [IntKind.wrap_u64]; omega
          by_cases hm0 : m ≤ tr - L
          · have k4 : (m : Int) ≤ ((tr - L : Nat) : Int) := by omega
            have HE : Hid (F (ls.take (q + 1)) = m) := Lib.hid (by rw [HS.out]; omega)
            obtain ⟨d, hd⟩ : ∃ d, d = tr - L := ⟨_, rfl⟩
            rw [← hd] at k3 k4
            clear hd
            go_wp2_with fail
            go_roundw
            case rel => exact ⟨q + 1, by omega, by go_num, by rw [HE.out] <;> rfl, HB9⟩
            case measure => simp [intOf]; omega
          · have k4 : ¬ (m : Int) ≤ ((tr - L : Nat) : Int) := by omega
            have HE : Hid (F (ls.take (q + 1)) = tr - L) := Lib.hid (by rw [HS.out]; omega)
            obtain ⟨d, hd⟩ : ∃ d, d = tr - L := ⟨_, rfl⟩
            rw [← hd] at k3 k4 HE
            clear hd
            go_wp2_with fail
            go_roundw
            case rel => exact ⟨q + 1, by omega, by go_num, by rw [HE.out] <;> rfl, HB9⟩
            case measure => simp [intOf]; omega
      · have hqn : q = n := by omega
        have HE : Hid (ls.take q = ls) := Lib.hid (List.take_of_length_le (by rw [HL.out]; omega))
        have z1 : ¬ (q : Int) < (n : Int) := by omega
        have HBW := Lib.hid (HB1.out.trans (HM.out.mono HB1.out.size))
        rw [HE.out]
        clear hlt HM
        generalize F ls = m at *
        go_wp2_with fail
        go_ret
        exact ⟨rfl, HBW.out⟩
  · have w1 : ¬ (p : Int) ≤ 4294967296 := by omega
    have w2 : (4294967296 : Int) < (p : Int) := by omega
    go_enter Try.func20, Try.ntmps20
    go_wp2_with fail
    ((with_reducible refine hc.mono ?_); rintro e W1 ⟨v1, rfl, o1, b1⟩)
    obtain ⟨A1, c1, rfl, r1, _⟩ := o1.rt (unR_in HI.out)
    rw [List.length_map, HL.out] at r1
    rw [List.length_map, HL.out]
    have HR := Lib.hid r1
    have HB1 := Lib.hid b1
    clear hc o1 r1 b1
    clear w1 w2 hp2
    go_wp2_with fail
    go_loopw [6, 15] (fun v i wr => ∃ q : Nat, q ≤ n ∧ i = .int .i64 (q : Int) ∧ v = .int .u64 ((F (ls.take q) : Nat) : Int) ∧ Hid (Below W1.heap.size W1 wr)) (fun _ i _ => n - (intOf i).toNat)
    case atStart => exact ⟨0, by omega, rfl, by rw [show ls.take 0 = [] from rfl, HF.out.1]; rfl, Lib.hid (Below.refl _ _)⟩
    case round =>
      obtain ⟨q, hq, rfl, rfl, HM⟩ := hrel
      by_cases hlt : q < n
      · have hql : q < ls.length := by rw [HL.out]; exact hlt
        obtain ⟨bA, off, rfl, hbA, c0, c1', c2⟩ := (HR.out.below HM.out).at (q := q) (by simpa using hql)
        simp only [List.getElem_map] at c0 c1' c2
        have HT : Hid (ls.take (q + 1) = ls.take q ++ [ls[q]]) := Lib.hid (List.take_succ_eq_append_getElem hql)
        have hti := HI.out ls[q] (List.getElem_mem hql)
        generalize ls[q] = t at c0 c1' c2 HT hti
        obtain ⟨to_, tr, tv⟩ := t
        obtain ⟨ht1, ht2, ht3⟩ := hti
        replace c0 : wr.cell? ⟨bA, off + q * 3, none⟩ = some (.int .u32 (to_ : Int)) := c0
        replace c1' : wr.cell? ⟨bA, off + q * 3 + 1, none⟩ = some (.int .u64 (tr : Int)) := c1'
        replace c2 : wr.cell? ⟨bA, off + q * 3 + 2, none⟩ = some (.int .i64 (tv : Int)) := c2
        simp only at ht1 ht2 ht3
        have HB9 : Hid (Below W1.heap.size W1 (wr.alloc (.cells #[.int .u32 (to_ : Int), .int .u64 (tr : Int), .int .i64 (tv : Int)] 30))) := Lib.hid (HM.out.trans ((belowA wr _).mono HM.out.size))
        have g1 : (q : Int) < (n : Int) := by omega
        clear hbA hql hlt ht1 HM
        have hs : F (ls.take (q + 1)) = min (F (ls.take q)) (tr - tv * (8 * 4294967296)) := by rw [HT.out, HF.out.2.1]; rfl
        have HS := Lib.hid hs
        have hm9 := HF.out.2.2 (ls.take q)
        clear hs
        generalize F (ls.take q) = m at *
        have y1 : tv * (8 * 4294967296) ≤ 511 * (8 * 4294967296) := Nat.mul_le_mul ht3 (by omega)
        have y2 : IntKind.u64.wrap (8 * (tv : Int)) = ((8 * tv : Nat) : Int) := by rw [IntKind.wrap_u64]; omega
        have y3 : IntKind.u64.wrap (((8 * tv : Nat) : Int) * (4294967296 : Int)) = ((tv * (8 * 4294967296) : Nat) : Int) := mul_y3 tv 4294967296 (by omega)
        obtain ⟨L8, hL8⟩ : ∃ L8, L8 = 8 * tv := ⟨_, rfl⟩
        obtain ⟨L, hL⟩ : ∃ L, L = tv * (8 * 4294967296) := ⟨_, rfl⟩
        rw [← hL8] at y2 y3
        rw [← hL] at y3 y1 HS
        clear hL8 hL
        by_cases hLt : tr < L
        · have k1 : (tr : Int) < (L : Int) := by omega
          have k2 : ¬ (L : Int) ≤ (tr : Int) := by omega
          have k3 : IntKind.u64.wrap ((tr : Int) - (tr : Int)) = ((0 : Nat) : Int) := by rw [IntKind.wrap_u64]; omega
          have HE : Hid (F (ls.take (q + 1)) = 0) := Lib.hid (by rw [HS.out]; omega)
          by_cases hm0 : m ≤ 0
          · have k4 : (m : Int) ≤ ((0 : Nat) : Int) := by omega
            have hmz : m = 0 := by omega
            go_wp2_with fail
            go_roundw
            case rel => exact ⟨q + 1, by omega, by go_num, by rw [HE.out]; first | done | (subst hmz; rfl) | rfl, HB9⟩
            case measure => simp [intOf]; omega
          · have k4 : ¬ (m : Int) ≤ ((0 : Nat) : Int) := by omega
            go_wp2_with fail
            go_roundw
            case rel => exact ⟨q + 1, by omega, by go_num, by rw [HE.out] <;> rfl, HB9⟩
            case measure => simp [intOf]; omega
        · have k1 : ¬ (tr : Int) < (L : Int) := by omega
          have k2 : (L : Int) ≤ (tr : Int) := by omega
          have k3 : IntKind.u64.wrap ((tr : Int) - (L : Int)) = ((tr - L : Nat) : Int) := by rw [IntKind.wrap_u64]; omega
          by_cases hm0 : m ≤ tr - L
          · have k4 : (m : Int) ≤ ((tr - L : Nat) : Int) := by omega
            have HE : Hid (F (ls.take (q + 1)) = m) := Lib.hid (by rw [HS.out]; omega)
            obtain ⟨d, hd⟩ : ∃ d, d = tr - L := ⟨_, rfl⟩
            rw [← hd] at k3 k4
            clear hd
            go_wp2_with fail
            go_roundw
            case rel => exact ⟨q + 1, by omega, by go_num, by rw [HE.out] <;> rfl, HB9⟩
            case measure => simp [intOf]; omega
          · have k4 : ¬ (m : Int) ≤ ((tr - L : Nat) : Int) := by omega
            have HE : Hid (F (ls.take (q + 1)) = tr - L) := Lib.hid (by rw [HS.out]; omega)
            obtain ⟨d, hd⟩ : ∃ d, d = tr - L := ⟨_, rfl⟩
            rw [← hd] at k3 k4 HE
            clear hd
            go_wp2_with fail
            go_roundw
            case rel => exact ⟨q + 1, by omega, by go_num, by rw [HE.out] <;> rfl, HB9⟩
            case measure => simp [intOf]; omega
      · have hqn : q = n := by omega
        have HE : Hid (ls.take q = ls) := Lib.hid (List.take_of_length_le (by rw [HL.out]; omega))
        have z1 : ¬ (q : Int) < (n : Int) := by omega
        have HBW := Lib.hid (HB1.out.trans (HM.out.mono HB1.out.size))
        rw [HE.out]
        clear hlt HM
        generalize F ls = m at *
        go_wp2_with fail
        go_ret
        exact ⟨rfl, HBW.out⟩
end Go.Proofs.Ytlbndhbfmjefeaa
