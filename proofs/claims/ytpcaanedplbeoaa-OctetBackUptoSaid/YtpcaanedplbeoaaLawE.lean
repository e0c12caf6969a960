/- The walk of layer 1's law OctetBack (sizes of a machine). -/
import Derived.Test.YtpcaanedplbeoaaLawC
import Derived.Test.YtpcaanedplbeoaaArith
namespace Go.Proofs.Ytpcaanedplbeoaa
open Go.RowKit
set_option linter.unusedVariables false
set_option linter.unusedSimpArgs false

theorem putL_ok (l : List UInt8) (x k : Nat) (h1 : 1 ≤ k) (h8 : k ≤ 8) : putL l x k = l ++ be x k := by
  have : szB (k : Int) = true := by simp [szB]; omega
  simp [putL, this]
theorem getN_mid (l m : List UInt8) (x k : Nat) (h1 : 1 ≤ k) (h8 : k ≤ 8) : getN ((l ++ be x k) ++ m) (l.length : Nat) (k : Nat) = x % 256 ^ k := by
  have hs : szB (k : Int) = true := by simp [szB]; omega
  have ht : thB ((l ++ be x k) ++ m).length ((l.length : Nat) : Int) (k : Int) = true := by simp [thB, be_len]; omega
  unfold getN
  rw [if_pos ⟨hs, ht⟩, Int.toNat_natCast, Int.toNat_natCast, List.append_assoc, List.drop_left, List.take_append_of_le_length (by simp [be_len]), List.take_of_length_le (by simp [be_len]), num_be]

theorem getB_mid (l m : List UInt8) (x k : Nat) (h1 : 1 ≤ k) (h8 : k ≤ 8) : getB (l.length + ((be x k).length + m.length)) (l.length : Nat) (k : Nat) = true := by
  simp [getB, szB, thB, be_len]
  omega
theorem padN_ltk (n k : Nat) (h1 : 1 ≤ k) : padN n k < k := by
  unfold padN
  split
  · rw [Int.toNat_natCast]
    exact Nat.mod_lt _ (by omega)
  · omega
set_option maxHeartbeats 1000000 in
theorem octetBack_walk (A : Option Addr) (n c : Nat) (l : List UInt8) (x : Nat) (t : Int) (A2 : Option Addr) (n2 c2 : Nat) (l2 : List UInt8) (w : World) (h : R8 w w.heap.size A n c l) (hn : n ≤ 1048576) (hx : x < 18446744073709551616) (ht : I64 t) (h2 : R8 w w.heap.size A2 n2 c2 l2) (hn2 : n2 ≤ 1048576) :
    Calls Try.prog 5 #[.slice A n c, .int .u64 x, .int .i64 t, .slice A2 n2 c2] w (Yes w) := by
  have hl := h.1
  have hl2 := h2.1
  subst hl
  subst hl2
  go_enter Try.func5, Try.ntmps5
  go_wp2_with fail
  refine (within_any _ _ _ _ ht (by omega) (by omega) (by omega)).mono ?_
  rintro e w3 ⟨r, rfl, k1, k2, rfl⟩
  obtain ⟨k, rfl⟩ := Int.eq_ofNat_of_zero_le (show 0 ≤ r by omega)
  have hk1 : 1 ≤ k := by omega
  have hk8 : k ≤ 8 := by omega
  clear k1 k2
  go_wp2_with fail
  refine (put_any _ _ _ _ _ h (by omega) _ _ hx).mono ?_
  rintro e w1 ⟨A3, n3, c3, rfl, hr3, b1⟩
  rw [putL_ok l x k hk1 hk8] at hr3
  have e3 : n3 = l.length + k := by rw [← hr3.1]; simp [be_len]
  subst e3
  have h' := h.on b1
  have h2' := h2.on b1
  have hbb : ([] : List UInt8).length + (l.length + k) ≤ 140737488355328 := by simp; omega
  have hbb2 : ([] ++ (l ++ be x k)).length + l2.length ≤ 140737488355328 := by simp [be_len]; omega
  clear h h2
  have hrow : ([] ++ (l ++ be x k)) ++ l2 = (l ++ be x k) ++ l2 := rfl
  go_wp2_with (first | (at_builtin; (with_reducible refine wpList_append8 rfl (.tmp 22) (.tmp 23) rfl rfl w1.heap.size _ [] rfl (Own8.empty _ _ (Nat.le_refl _)) w1.heap.size _ _ _ _ rfl (hr3.alloc (Nat.le_refl _) _) hbb (by simp) ?_); intro v1 w2 ha1; have hb2 := ha1.below ((Below.refl _ _).alloc (Nat.le_refl _) _) (by simp) (Own8.empty _ _ (Nat.le_refl _)) (Nat.le_refl _); have ho1 := ha1.1; have hsz2 := hb2.size; have hr22 := h2'.below hb2) | (at_builtin; (refine wpList_append8 rfl (.tmp 24) (.tmp 25) rfl rfl w1.heap.size v1 _ rfl ho1 w1.heap.size _ _ _ _ rfl hr22 hbb2 hsz2 ?_); intro v2 w4 ha2; have hb4 := ha2.below hb2 hsz2 ho1 (Nat.le_refl _); have hr4 := ha2.1.r8; rw [hrow] at hr4; obtain ⟨A5, c5, hv2, hr5⟩ := hr4; rw [hv2]))
  rw [show ((l ++ be x k) ++ l2).length = l.length + ((be x k).length + l2.length) by simp [Nat.add_assoc]] at hr5
  have hbe := be_len k x
  refine (get_any _ _ _ _ _ hr5 (by omega) _ _ (by unfold I64; omega)).mono ?_
  rintro e w5 ⟨rfl, rfl⟩
  rw [getN_mid l l2 x k hk1 hk8, getB_mid l l2 x k hk1 hk8]
  have h4 := h'.on (hb4)
  have b4 := b1.trans (hb4.mono b1.size)
  clear hr5 hv2 ha2 ha1 hb4 hb2 ho1 hr22 h2' hr3 h' b1 hbb hbb2 hrow hsz2
  go_wp2_with fail
  refine (pad_all _ _ _ _ _ h4 (by omega) _).mono ?_
  rintro e w6 ⟨A6, N, c6, rfl, hr6, b6⟩
  have hN : N = l.length + padN l.length k := by rw [← hr6.1]; simp [padL]
  have hp1 := padN_ltk l.length k hk1
  have hp2 := pad_eq l.length k hk1 (by omega)
  generalize hp : padN l.length k = p at hN hp1 hp2
  subst hN
  have h6 := h4.on b6
  have b6' := b4.trans (b6.mono b4.size)
  clear b6 b4 h4
  obtain ⟨P, hP⟩ : ∃ P, P = padL l (k : Int) := ⟨_, rfl⟩
  rw [← hP] at hr6
  have hPt : P.take l.length = l := by rw [hP]; simp [padL]
  have hPz : ∀ i, l.length ≤ i → i < l.length + p → P.getD i 0 = 0 := by
    intro i h1 h2
    rw [hP]
    have h3 : i - l.length < p := by omega
    simp [padL, hp, List.getD, List.getElem?_append_right h1, List.getElem?_replicate, h3]
  have HT := Lib.hid hPt
  have HZ := Lib.hid hPz
  have HM := Lib.hid hp2
  clear hP hp hPt hPz hp2
  go_wp2_with fail
  go_loop [14] (fun j => ∃ q : Nat, q ≤ p ∧ j = .int .i64 ((l.length : Int) + q)) (fun j => (l.length + p : Nat) - (intOf j).toNat)
  case atStart => exact ⟨0, Nat.zero_le _, by simp⟩
  case round =>
    obtain ⟨q, hq, rfl⟩ := hrel
    by_cases hlt : q < p
    · obtain ⟨b, off, rfl, hb, hcell⟩ := hr6.2.2 (by omega)
      have hc := hcell (l.length + q) (by omega)
      rw [HZ.out (l.length + q) (by omega) (by omega)] at hc
      have hz : (((0 : UInt8).toNat : Nat) : Int) = 0 := by decide
      rw [hz] at hc
      clear hz hcell
      have g0 : ((0 : Int) != 0) = false := by decide
      go_wp2
      go_round
      case rel => exact ⟨q + 1, by omega, by go_num⟩
      case measure => simp [intOf]; omega
    · obtain rfl : q = p := by omega
      go_wp2_with fail
      have q6 := hr6.drew
      have q0 := h6.drew
      have qt := q6.take_ l.length (by omega)
      rw [HT.out] at qt
      have hc6 := hr6.2.1
      rcases Nat.lt_or_ge k 8 with hk | hk
      · have hpk := pow256_lt hk
        refine wp_region_tbl [.val (.slice A3 (l.length + k) c3), .val (.int .i64 (l.length + k : Nat)), .val (.slice A l.length c), .val (.int .i64 (l.length : Nat)), .val (.int .i64 (k : Nat)), .val (.int .i64 (l.length + k : Nat)), .val (.bool true), .val (.bool true), .val (.bool true), .val (.bool true), .val (.bool true), .val (.int .i64 (k : Nat)), .val (.bool false), .val (.bool false), .val (undef), .val (undef), .val (undef), .val (.bool false), .val (.bool false), .val (.int .i64 (k : Nat)), .val (.bool true), .val (.bool true), .val (.int .u64 (x % 256 ^ k : Nat)), .val (.int .u64 (x : Nat)), .val (.int .i64 (k : Nat)), .val (.int .i64 (8 * k : Nat)), .val (.int .u64 (8 * k : Nat)), .val (.int .u64 (256 ^ k : Nat)), .val (.int .u64 (256 ^ k - 1 : Nat)), .val (.int .u64 (x % 256 ^ k : Nat)), .val (.bool true), .val (.bool true), .val (.bool true), .val (.bool true), .val (.bool true), .val (.slice A6 (l.length + q) c6), .val (.int .i64 (l.length + q : Nat)), .val (.int .i64 (k : Nat)), .val (.int .i64 0), .val (.bool true), .val (.bool true), .val (.bool true), .val (.slice A6 (l.length + q) c6), .val (.int .i64 (l.length + q : Nat)), .val (.slice A l.length c), .val (.int .i64 (l.length : Nat)), .val (.int .i64 (k : Nat)), .val (.int .i64 (l.length + k : Nat)), .val (.bool true), .val (.bool true), .val (.bool true), .val (.slice A6 (l.length + q) c6), .val (.slice A l.length c), .val (.int .i64 (l.length : Nat)), .val (.slice A6 (l.length + q) c6), .val (.int .i64 (l.length + q : Nat)), .val (.int .i64 (l.length : Nat)), .val (.slice A6 l.length c6), .val (.string ⟨(l).toArray⟩), .val (.slice A l.length c), .val (.string ⟨(l).toArray⟩), .val (.bool true), .val (.bool true), .val (.bool true), .val (.bool true), .val (.bool true), .val (.bool true)] (by kernel_rfl) (by kernel_rfl) (by kernel_rfl) (AllObl.all ⟨?_, ?_, ?_, ?_, ?_, ?_, ?_, ?_, ?_, ?_, ?_, ?_, ?_, ?_, ?_, ?_, ?_, ?_, ?_, ?_, ?_, ?_, ?_, ?_, ?_, ?_, ?_, ?_, ?_, ?_, ?_, ?_, ?_, ?_, ?_, ?_, ?_, ?_, ?_, ?_, ?_, ?_, ?_, ?_, ?_, ?_, ?_, ?_, ?_, ?_, ?_, ?_, ?_, ?_, ?_, ?_, ?_, ?_, ?_, ?_, ?_, ?_, ?_, ?_, ?_, ?_, ?_, trivial⟩) ?_
        · exact Obl.move trivial _ (Or.inl rfl) (by kernel_rfl)
        · exact Obl.lenV (x := (.tmp 49)) trivial _ _ Try.underlying22 rfl (A3) ((l.length + k)) (c3) (by kernel_rfl) (by kernel_rfl)
        · exact Obl.move trivial _ (Or.inl rfl) (by kernel_rfl)
        · exact Obl.lenV (x := (.tmp 51)) trivial _ _ Try.underlying22 rfl (A) (l.length) (c) (by kernel_rfl) (by kernel_rfl)
        · exact Obl.move trivial _ (Or.inl rfl) (by kernel_rfl)
        · exact Obl.bin trivial .add _ (.tmp 52) (.tmp 53) _ rfl (.int .i64 (l.length : Nat)) (.int .i64 (k : Nat)) (.int .i64 (l.length + k : Nat)) (by kernel_rfl) (by kernel_rfl) (add_ii _ _ _ _ (by omega)) (by kernel_rfl)
        · exact Obl.bin trivial .eql _ (.tmp 50) (.tmp 54) _ rfl (.int .i64 (l.length + k : Nat)) (.int .i64 (l.length + k : Nat)) (.bool true) (by kernel_rfl) (by kernel_rfl) (fun w => by simp [eqGuard, go_sem]) (by kernel_rfl)
        · exact Obl.move trivial _ (Or.inl rfl) (by kernel_rfl)
        · exact Obl.move ⟨by kernel_rfl, by kernel_rfl, by kernel_rfl⟩ _ (Or.inl rfl) (by kernel_rfl)
        · exact Obl.pick trivial _ _ _ rfl true (by kernel_rfl) (by kernel_rfl)
        · exact Obl.move trivial _ (Or.inl rfl) (by kernel_rfl)
        · exact Obl.move ⟨by kernel_rfl, by kernel_rfl, by kernel_rfl⟩ _ (Or.inl rfl) (by kernel_rfl)
        · exact Obl.bin ⟨by kernel_rfl, by kernel_rfl, by kernel_rfl⟩ .eql _ (.tmp 60) (.const (.int .i64 8)) _ rfl (.int .i64 (k : Nat)) (.int .i64 8) (.bool false) (by kernel_rfl) (by kernel_rfl) (eql_8_no _ _ _ hk) (by kernel_rfl)
        · exact Obl.move ⟨by kernel_rfl, by kernel_rfl, by kernel_rfl⟩ _ (Or.inl rfl) (by kernel_rfl)
        · exact Obl.skip 13 true (.bool false) rfl (by kernel_rfl) (by kernel_rfl) (by kernel_rfl) (by kernel_rfl) (fun w => holds_undef (by kernel_rfl))
        · exact Obl.skip 13 true (.bool false) rfl (by kernel_rfl) (by kernel_rfl) (by kernel_rfl) (by kernel_rfl) (fun w => holds_undef (by kernel_rfl))
        · exact Obl.skip 13 true (.bool false) rfl (by kernel_rfl) (by kernel_rfl) (by kernel_rfl) (by kernel_rfl) (fun w => holds_undef (by kernel_rfl))
        · exact Obl.pick ⟨by kernel_rfl, by kernel_rfl, by kernel_rfl⟩ _ _ _ rfl false (by kernel_rfl) (by kernel_rfl)
        · exact Obl.move ⟨by kernel_rfl, by kernel_rfl, by kernel_rfl⟩ _ (Or.inl rfl) (by kernel_rfl)
        · exact Obl.move ⟨by kernel_rfl, by kernel_rfl, by kernel_rfl⟩ _ (Or.inl rfl) (by kernel_rfl)
        · exact Obl.bin ⟨by kernel_rfl, by kernel_rfl, by kernel_rfl⟩ .lss _ (.tmp 68) (.const (.int .i64 8)) _ rfl (.int .i64 (k : Nat)) (.int .i64 8) (.bool true) (by kernel_rfl) (by kernel_rfl) (lss_8 _ _ _ hk) (by kernel_rfl)
        · exact Obl.move ⟨by kernel_rfl, by kernel_rfl, by kernel_rfl⟩ _ (Or.inl rfl) (by kernel_rfl)
        · exact Obl.move ⟨by kernel_rfl, by kernel_rfl, by kernel_rfl⟩ _ (Or.inl rfl) (by kernel_rfl)
        · exact Obl.move ⟨by kernel_rfl, by kernel_rfl, by kernel_rfl⟩ _ (Or.inl rfl) (by kernel_rfl)
        · exact Obl.move ⟨by kernel_rfl, by kernel_rfl, by kernel_rfl⟩ _ (Or.inl rfl) (by kernel_rfl)
        · exact Obl.bin ⟨by kernel_rfl, by kernel_rfl, by kernel_rfl⟩ .mul _ (.const (.int .i64 8)) (.tmp 73) _ rfl (.int .i64 8) (.int .i64 (k : Nat)) (.int .i64 (8 * k : Nat)) (by kernel_rfl) (by kernel_rfl) (mul_8 _ _ _ hk) (by kernel_rfl)
        · exact Obl.conv ⟨by kernel_rfl, by kernel_rfl, by kernel_rfl⟩ _ _ (.tmp 74) rfl (.int .i64 (8 * k : Nat)) (.int .u64 (8 * k : Nat)) (by kernel_rfl) (conv_iu _ (by omega)) (by kernel_rfl)
        · exact Obl.bin ⟨by kernel_rfl, by kernel_rfl, by kernel_rfl⟩ .shl _ (.const (.int .u64 1)) (.tmp 75) _ rfl (.int .u64 1) (.int .u64 (8 * k : Nat)) (.int .u64 (256 ^ k : Nat)) (by kernel_rfl) (by kernel_rfl) (shl_1 _ _ _ hk) (by kernel_rfl)
        · exact Obl.bin ⟨by kernel_rfl, by kernel_rfl, by kernel_rfl⟩ .sub _ (.tmp 76) (.const (.int .u64 1)) _ rfl (.int .u64 (256 ^ k : Nat)) (.int .u64 1) (.int .u64 (256 ^ k - 1 : Nat)) (by kernel_rfl) (by kernel_rfl) (sub_u1 _ _ _ hpk.1 (by omega)) (by kernel_rfl)
        · exact Obl.bin ⟨by kernel_rfl, by kernel_rfl, by kernel_rfl⟩ .and _ (.tmp 72) (.tmp 77) _ rfl (.int .u64 (x : Nat)) (.int .u64 (256 ^ k - 1 : Nat)) (.int .u64 (x % 256 ^ k : Nat)) (by kernel_rfl) (by kernel_rfl) (and_low _ _ _ _ hk hx) (by kernel_rfl)
        · exact Obl.bin ⟨by kernel_rfl, by kernel_rfl, by kernel_rfl⟩ .eql _ (.tmp 71) (.tmp 78) _ rfl (.int .u64 (x % 256 ^ k : Nat)) (.int .u64 (x % 256 ^ k : Nat)) (.bool true) (by kernel_rfl) (by kernel_rfl) (fun w => by simp [eqGuard, go_sem]) (by kernel_rfl)
        · exact Obl.pick ⟨by kernel_rfl, by kernel_rfl, by kernel_rfl⟩ _ _ _ rfl true (by kernel_rfl) (by kernel_rfl)
        · exact Obl.pick ⟨by kernel_rfl, by kernel_rfl, by kernel_rfl⟩ _ _ _ rfl false (by kernel_rfl) (by kernel_rfl)
        · exact Obl.pick trivial _ _ _ rfl true (by kernel_rfl) (by kernel_rfl)
        · exact Obl.move trivial _ (Or.inl rfl) (by kernel_rfl)
        · exact Obl.move ⟨by kernel_rfl, by kernel_rfl, by kernel_rfl⟩ _ (Or.inl rfl) (by kernel_rfl)
        · exact Obl.lenV (x := (.tmp 84)) ⟨by kernel_rfl, by kernel_rfl, by kernel_rfl⟩ _ _ Try.underlying22 rfl (A6) ((l.length + q)) (c6) (by kernel_rfl) (by kernel_rfl)
        · exact Obl.move ⟨by kernel_rfl, by kernel_rfl, by kernel_rfl⟩ _ (Or.inl rfl) (by kernel_rfl)
        · exact Obl.bin ⟨by kernel_rfl, by kernel_rfl, by kernel_rfl⟩ .rem _ (.tmp 85) (.tmp 86) _ rfl (.int .i64 (l.length + q : Nat)) (.int .i64 (k : Nat)) (.int .i64 0) (by kernel_rfl) (by kernel_rfl) (rem_0 _ _ _ _ HM.out hk1) (by kernel_rfl)
        · exact Obl.bin ⟨by kernel_rfl, by kernel_rfl, by kernel_rfl⟩ .eql _ (.tmp 87) (.const (.int .i64 0)) _ rfl (.int .i64 0) (.int .i64 0) (.bool true) (by kernel_rfl) (by kernel_rfl) (fun w => by simp [eqGuard, go_sem]) (by kernel_rfl)
        · exact Obl.pick trivial _ _ _ rfl true (by kernel_rfl) (by kernel_rfl)
        · exact Obl.move trivial _ (Or.inl rfl) (by kernel_rfl)
        · exact Obl.move ⟨by kernel_rfl, by kernel_rfl, by kernel_rfl⟩ _ (Or.inl rfl) (by kernel_rfl)
        · exact Obl.lenV (x := (.tmp 91)) ⟨by kernel_rfl, by kernel_rfl, by kernel_rfl⟩ _ _ Try.underlying22 rfl (A6) ((l.length + q)) (c6) (by kernel_rfl) (by kernel_rfl)
        · exact Obl.move ⟨by kernel_rfl, by kernel_rfl, by kernel_rfl⟩ _ (Or.inl rfl) (by kernel_rfl)
        · exact Obl.lenV (x := (.tmp 93)) ⟨by kernel_rfl, by kernel_rfl, by kernel_rfl⟩ _ _ Try.underlying22 rfl (A) (l.length) (c) (by kernel_rfl) (by kernel_rfl)
        · exact Obl.move ⟨by kernel_rfl, by kernel_rfl, by kernel_rfl⟩ _ (Or.inl rfl) (by kernel_rfl)
        · exact Obl.bin ⟨by kernel_rfl, by kernel_rfl, by kernel_rfl⟩ .add _ (.tmp 94) (.tmp 95) _ rfl (.int .i64 (l.length : Nat)) (.int .i64 (k : Nat)) (.int .i64 (l.length + k : Nat)) (by kernel_rfl) (by kernel_rfl) (add_ii _ _ _ _ (by omega)) (by kernel_rfl)
        · exact Obl.bin ⟨by kernel_rfl, by kernel_rfl, by kernel_rfl⟩ .lss _ (.tmp 92) (.tmp 96) _ rfl (.int .i64 (l.length + q : Nat)) (.int .i64 (l.length + k : Nat)) (.bool true) (by kernel_rfl) (by kernel_rfl) (lss_ii _ _ _ _ (by omega)) (by kernel_rfl)
        · exact Obl.pick trivial _ _ _ rfl true (by kernel_rfl) (by kernel_rfl)
        · exact Obl.move trivial _ (Or.inl rfl) (by kernel_rfl)
        · exact Obl.move ⟨by kernel_rfl, by kernel_rfl, by kernel_rfl⟩ _ (Or.inl rfl) (by kernel_rfl)
        · exact Obl.move ⟨by kernel_rfl, by kernel_rfl, by kernel_rfl⟩ _ (Or.inl rfl) (by kernel_rfl)
        · exact Obl.lenV (x := (.tmp 101)) ⟨by kernel_rfl, by kernel_rfl, by kernel_rfl⟩ _ _ Try.underlying22 rfl (A) (l.length) (c) (by kernel_rfl) (by kernel_rfl)
        · exact Obl.move ⟨by kernel_rfl, by kernel_rfl, by kernel_rfl⟩ _ (Or.inl rfl) (by kernel_rfl)
        · exact Obl.lenV (x := (.tmp 103)) ⟨by kernel_rfl, by kernel_rfl, by kernel_rfl⟩ _ _ Try.underlying22 rfl (A6) ((l.length + q)) (c6) (by kernel_rfl) (by kernel_rfl)
        · exact Obl.bi2 ⟨by kernel_rfl, by kernel_rfl, by kernel_rfl⟩ .min (.tmp 102) (.tmp 104) _ rfl (.int .i64 (l.length : Nat)) (.int .i64 (l.length + q : Nat)) (.int .i64 (l.length : Nat)) (by kernel_rfl) (by kernel_rfl) (fun w cs => min_ii _ _ cs (by omega) w) (by kernel_rfl)
        · exact Obl.cutH ⟨by kernel_rfl, by kernel_rfl, by kernel_rfl⟩ _ (.tmp 100) (.tmp 105) rfl (.slice A6 (l.length + q) c6) (.int .i64 (l.length : Nat)) (.slice A6 l.length c6) (by kernel_rfl) (by kernel_rfl) (cut_h _ _ _ _ (by omega) hc6) (by kernel_rfl)
        · exact Obl.str (x := .tmp 106) ⟨by kernel_rfl, by kernel_rfl, by kernel_rfl⟩ 22 5 9 rfl Try.underlying22 Try.underlying5 Try.underlying9 (l) (.inr ⟨A6, l.length, c6, by kernel_rfl, qt⟩) (by kernel_rfl)
        · exact Obl.move ⟨by kernel_rfl, by kernel_rfl, by kernel_rfl⟩ _ (Or.inl rfl) (by kernel_rfl)
        · exact Obl.str (x := .tmp 108) ⟨by kernel_rfl, by kernel_rfl, by kernel_rfl⟩ 22 5 9 rfl Try.underlying22 Try.underlying5 Try.underlying9 (l) (.inr ⟨A, l.length, c, by kernel_rfl, q0⟩) (by kernel_rfl)
        · exact Obl.bin ⟨by kernel_rfl, by kernel_rfl, by kernel_rfl⟩ .eql _ (.tmp 107) (.tmp 109) _ rfl (.string ⟨(l).toArray⟩) (.string ⟨(l).toArray⟩) (.bool true) (by kernel_rfl) (by kernel_rfl) (eql_str _ _ _) (by kernel_rfl)
        · exact Obl.pick trivial _ _ _ rfl true (by kernel_rfl) (by kernel_rfl)
        · exact Obl.move trivial _ (Or.inl rfl) (by kernel_rfl)
        · exact Obl.call ⟨by kernel_rfl, by kernel_rfl, by kernel_rfl⟩ 9 #[] _ rfl Try.f9 Try.func9 (by kernel_rfl) (by kernel_rfl) (fun ev w hb hx => by
            simp only [List.map_toArray, List.map_nil]
            exact (known_any _).mono fun _ _ hh => hh.holds (by kernel_rfl))
        · exact Obl.pick trivial _ _ _ rfl true (by kernel_rfl) (by kernel_rfl)
        · exact Obl.move trivial _ (Or.inr rfl) (by kernel_rfl)
        intro a w7 hb hsz hdf hold hv
        have h8 : a.tmps.getD 8 undef = .bool true := holds_val (hv 66 8 (by kernel_rfl)) (by kernel_rfl)
        obtain ⟨tm, df⟩ := a
        have hdf' : df = [] := hdf
        subst hdf'
        go_wp2
        go_ret
        exact ⟨congrArg _ h8, b6'.drew.trans (hb.mono b6'.size)⟩
      · obtain rfl : k = 8 := by omega
        have e8 : ((x : Int) % 256 ^ 8) = (x : Int) := Int.emod_eq_of_lt (by omega) (by
          have : (256 : Int) ^ 8 = 18446744073709551616 := by decide
          omega)
        rw [e8]
        refine wp_region_tbl [.val (.slice A3 (l.length + 8) c3), .val (.int .i64 (l.length + 8 : Nat)), .val (.slice A l.length c), .val (.int .i64 (l.length : Nat)), .val (.int .i64 8), .val (.int .i64 (l.length + 8 : Nat)), .val (.bool true), .val (.bool true), .val (.bool true), .val (.bool true), .val (.bool true), .val (.int .i64 8), .val (.bool true), .val (.bool true), .val (.int .u64 (x : Nat)), .val (.int .u64 (x : Nat)), .val (.bool true), .val (.bool true), .val (.bool true), .val (undef), .val (undef), .val (undef), .val (undef), .val (undef), .val (undef), .val (undef), .val (undef), .val (undef), .val (undef), .val (undef), .val (undef), .val (undef), .val (.bool true), .val (.bool true), .val (.bool true), .val (.slice A6 (l.length + q) c6), .val (.int .i64 (l.length + q : Nat)), .val (.int .i64 8), .val (.int .i64 0), .val (.bool true), .val (.bool true), .val (.bool true), .val (.slice A6 (l.length + q) c6), .val (.int .i64 (l.length + q : Nat)), .val (.slice A l.length c), .val (.int .i64 (l.length : Nat)), .val (.int .i64 8), .val (.int .i64 (l.length + 8 : Nat)), .val (.bool true), .val (.bool true), .val (.bool true), .val (.slice A6 (l.length + q) c6), .val (.slice A l.length c), .val (.int .i64 (l.length : Nat)), .val (.slice A6 (l.length + q) c6), .val (.int .i64 (l.length + q : Nat)), .val (.int .i64 (l.length : Nat)), .val (.slice A6 l.length c6), .val (.string ⟨(l).toArray⟩), .val (.slice A l.length c), .val (.string ⟨(l).toArray⟩), .val (.bool true), .val (.bool true), .val (.bool true), .val (.bool true), .val (.bool true), .val (.bool true)] (by kernel_rfl) (by kernel_rfl) (by kernel_rfl) (AllObl.all ⟨?_, ?_, ?_, ?_, ?_, ?_, ?_, ?_, ?_, ?_, ?_, ?_, ?_, ?_, ?_, ?_, ?_, ?_, ?_, ?_, ?_, ?_, ?_, ?_, ?_, ?_, ?_, ?_, ?_, ?_, ?_, ?_, ?_, ?_, ?_, ?_, ?_, ?_, ?_, ?_, ?_, ?_, ?_, ?_, ?_, ?_, ?_, ?_, ?_, ?_, ?_, ?_, ?_, ?_, ?_, ?_, ?_, ?_, ?_, ?_, ?_, ?_, ?_, ?_, ?_, ?_, ?_, trivial⟩) ?_
        · exact Obl.move trivial _ (Or.inl rfl) (by kernel_rfl)
        · exact Obl.lenV (x := (.tmp 49)) trivial _ _ Try.underlying22 rfl (A3) ((l.length + 8)) (c3) (by kernel_rfl) (by kernel_rfl)
        · exact Obl.move trivial _ (Or.inl rfl) (by kernel_rfl)
        · exact Obl.lenV (x := (.tmp 51)) trivial _ _ Try.underlying22 rfl (A) (l.length) (c) (by kernel_rfl) (by kernel_rfl)
        · exact Obl.move trivial _ (Or.inl rfl) (by kernel_rfl)
        · exact Obl.bin trivial .add _ (.tmp 52) (.tmp 53) _ rfl (.int .i64 (l.length : Nat)) (.int .i64 8) (.int .i64 (l.length + 8 : Nat)) (by kernel_rfl) (by kernel_rfl) (add_ii l.length 8 _ _ (by omega)) (by kernel_rfl)
        · exact Obl.bin trivial .eql _ (.tmp 50) (.tmp 54) _ rfl (.int .i64 (l.length + 8 : Nat)) (.int .i64 (l.length + 8 : Nat)) (.bool true) (by kernel_rfl) (by kernel_rfl) (fun w => by simp [eqGuard, go_sem]) (by kernel_rfl)
        · exact Obl.move trivial _ (Or.inl rfl) (by kernel_rfl)
        · exact Obl.move ⟨by kernel_rfl, by kernel_rfl, by kernel_rfl⟩ _ (Or.inl rfl) (by kernel_rfl)
        · exact Obl.pick trivial _ _ _ rfl true (by kernel_rfl) (by kernel_rfl)
        · exact Obl.move trivial _ (Or.inl rfl) (by kernel_rfl)
        · exact Obl.move ⟨by kernel_rfl, by kernel_rfl, by kernel_rfl⟩ _ (Or.inl rfl) (by kernel_rfl)
        · exact Obl.bin ⟨by kernel_rfl, by kernel_rfl, by kernel_rfl⟩ .eql _ (.tmp 60) (.const (.int .i64 8)) _ rfl (.int .i64 8) (.int .i64 8) (.bool true) (by kernel_rfl) (by kernel_rfl) (fun w => by simp [eqGuard, go_sem]) (by kernel_rfl)
        · exact Obl.move ⟨by kernel_rfl, by kernel_rfl, by kernel_rfl⟩ _ (Or.inl rfl) (by kernel_rfl)
        · exact Obl.move ⟨by kernel_rfl, by kernel_rfl, by kernel_rfl⟩ _ (Or.inl rfl) (by kernel_rfl)
        · exact Obl.move ⟨by kernel_rfl, by kernel_rfl, by kernel_rfl⟩ _ (Or.inl rfl) (by kernel_rfl)
        · exact Obl.bin ⟨by kernel_rfl, by kernel_rfl, by kernel_rfl⟩ .eql _ (.tmp 63) (.tmp 64) _ rfl (.int .u64 (x : Nat)) (.int .u64 (x : Nat)) (.bool true) (by kernel_rfl) (by kernel_rfl) (fun w => by simp [eqGuard, go_sem]) (by kernel_rfl)
        · exact Obl.pick ⟨by kernel_rfl, by kernel_rfl, by kernel_rfl⟩ _ _ _ rfl true (by kernel_rfl) (by kernel_rfl)
        · exact Obl.move ⟨by kernel_rfl, by kernel_rfl, by kernel_rfl⟩ _ (Or.inl rfl) (by kernel_rfl)
        · exact Obl.skip 18 false (.bool true) rfl (by kernel_rfl) (by kernel_rfl) (by kernel_rfl) (by kernel_rfl) (fun w => holds_undef (by kernel_rfl))
        · exact Obl.skip 18 false (.bool true) rfl (by kernel_rfl) (by kernel_rfl) (by kernel_rfl) (by kernel_rfl) (fun w => holds_undef (by kernel_rfl))
        · exact Obl.skip 18 false (.bool true) rfl (by kernel_rfl) (by kernel_rfl) (by kernel_rfl) (by kernel_rfl) (fun w => holds_undef (by kernel_rfl))
        · exact Obl.skip 21 true (undef) rfl (by kernel_rfl) (by kernel_rfl) (by kernel_rfl) (by kernel_rfl) (fun w => holds_undef (by kernel_rfl))
        · exact Obl.skip 21 true (undef) rfl (by kernel_rfl) (by kernel_rfl) (by kernel_rfl) (by kernel_rfl) (fun w => holds_undef (by kernel_rfl))
        · exact Obl.skip 21 true (undef) rfl (by kernel_rfl) (by kernel_rfl) (by kernel_rfl) (by kernel_rfl) (fun w => holds_undef (by kernel_rfl))
        · exact Obl.skip 21 true (undef) rfl (by kernel_rfl) (by kernel_rfl) (by kernel_rfl) (by kernel_rfl) (fun w => holds_undef (by kernel_rfl))
        · exact Obl.skip 21 true (undef) rfl (by kernel_rfl) (by kernel_rfl) (by kernel_rfl) (by kernel_rfl) (fun w => holds_undef (by kernel_rfl))
        · exact Obl.skip 21 true (undef) rfl (by kernel_rfl) (by kernel_rfl) (by kernel_rfl) (by kernel_rfl) (fun w => holds_undef (by kernel_rfl))
        · exact Obl.skip 21 true (undef) rfl (by kernel_rfl) (by kernel_rfl) (by kernel_rfl) (by kernel_rfl) (fun w => holds_undef (by kernel_rfl))
        · exact Obl.skip 21 true (undef) rfl (by kernel_rfl) (by kernel_rfl) (by kernel_rfl) (by kernel_rfl) (fun w => holds_undef (by kernel_rfl))
        · exact Obl.skip 21 true (undef) rfl (by kernel_rfl) (by kernel_rfl) (by kernel_rfl) (by kernel_rfl) (fun w => holds_undef (by kernel_rfl))
        · exact Obl.skip 18 false (.bool true) rfl (by kernel_rfl) (by kernel_rfl) (by kernel_rfl) (by kernel_rfl) (fun w => holds_undef (by kernel_rfl))
        · exact Obl.pick ⟨by kernel_rfl, by kernel_rfl, by kernel_rfl⟩ _ _ _ rfl true (by kernel_rfl) (by kernel_rfl)
        · exact Obl.pick trivial _ _ _ rfl true (by kernel_rfl) (by kernel_rfl)
        · exact Obl.move trivial _ (Or.inl rfl) (by kernel_rfl)
        · exact Obl.move ⟨by kernel_rfl, by kernel_rfl, by kernel_rfl⟩ _ (Or.inl rfl) (by kernel_rfl)
        · exact Obl.lenV (x := (.tmp 84)) ⟨by kernel_rfl, by kernel_rfl, by kernel_rfl⟩ _ _ Try.underlying22 rfl (A6) ((l.length + q)) (c6) (by kernel_rfl) (by kernel_rfl)
        · exact Obl.move ⟨by kernel_rfl, by kernel_rfl, by kernel_rfl⟩ _ (Or.inl rfl) (by kernel_rfl)
        · exact Obl.bin ⟨by kernel_rfl, by kernel_rfl, by kernel_rfl⟩ .rem _ (.tmp 85) (.tmp 86) _ rfl (.int .i64 (l.length + q : Nat)) (.int .i64 8) (.int .i64 0) (by kernel_rfl) (by kernel_rfl) (rem_0 _ _ _ _ HM.out hk1) (by kernel_rfl)
        · exact Obl.bin ⟨by kernel_rfl, by kernel_rfl, by kernel_rfl⟩ .eql _ (.tmp 87) (.const (.int .i64 0)) _ rfl (.int .i64 0) (.int .i64 0) (.bool true) (by kernel_rfl) (by kernel_rfl) (fun w => by simp [eqGuard, go_sem]) (by kernel_rfl)
        · exact Obl.pick trivial _ _ _ rfl true (by kernel_rfl) (by kernel_rfl)
        · exact Obl.move trivial _ (Or.inl rfl) (by kernel_rfl)
        · exact Obl.move ⟨by kernel_rfl, by kernel_rfl, by kernel_rfl⟩ _ (Or.inl rfl) (by kernel_rfl)
        · exact Obl.lenV (x := (.tmp 91)) ⟨by kernel_rfl, by kernel_rfl, by kernel_rfl⟩ _ _ Try.underlying22 rfl (A6) ((l.length + q)) (c6) (by kernel_rfl) (by kernel_rfl)
        · exact Obl.move ⟨by kernel_rfl, by kernel_rfl, by kernel_rfl⟩ _ (Or.inl rfl) (by kernel_rfl)
        · exact Obl.lenV (x := (.tmp 93)) ⟨by kernel_rfl, by kernel_rfl, by kernel_rfl⟩ _ _ Try.underlying22 rfl (A) (l.length) (c) (by kernel_rfl) (by kernel_rfl)
        · exact Obl.move ⟨by kernel_rfl, by kernel_rfl, by kernel_rfl⟩ _ (Or.inl rfl) (by kernel_rfl)
        · exact Obl.bin ⟨by kernel_rfl, by kernel_rfl, by kernel_rfl⟩ .add _ (.tmp 94) (.tmp 95) _ rfl (.int .i64 (l.length : Nat)) (.int .i64 8) (.int .i64 (l.length + 8 : Nat)) (by kernel_rfl) (by kernel_rfl) (add_ii l.length 8 _ _ (by omega)) (by kernel_rfl)
        · exact Obl.bin ⟨by kernel_rfl, by kernel_rfl, by kernel_rfl⟩ .lss _ (.tmp 92) (.tmp 96) _ rfl (.int .i64 (l.length + q : Nat)) (.int .i64 (l.length + 8 : Nat)) (.bool true) (by kernel_rfl) (by kernel_rfl) (lss_ii _ _ _ _ (by omega)) (by kernel_rfl)
        · exact Obl.pick trivial _ _ _ rfl true (by kernel_rfl) (by kernel_rfl)
        · exact Obl.move trivial _ (Or.inl rfl) (by kernel_rfl)
        · exact Obl.move ⟨by kernel_rfl, by kernel_rfl, by kernel_rfl⟩ _ (Or.inl rfl) (by kernel_rfl)
        · exact Obl.move ⟨by kernel_rfl, by kernel_rfl, by kernel_rfl⟩ _ (Or.inl rfl) (by kernel_rfl)
        · exact Obl.lenV (x := (.tmp 101)) ⟨by kernel_rfl, by kernel_rfl, by kernel_rfl⟩ _ _ Try.underlying22 rfl (A) (l.length) (c) (by kernel_rfl) (by kernel_rfl)
        · exact Obl.move ⟨by kernel_rfl, by kernel_rfl, by kernel_rfl⟩ _ (Or.inl rfl) (by kernel_rfl)
        · exact Obl.lenV (x := (.tmp 103)) ⟨by kernel_rfl, by kernel_rfl, by kernel_rfl⟩ _ _ Try.underlying22 rfl (A6) ((l.length + q)) (c6) (by kernel_rfl) (by kernel_rfl)
        · exact Obl.bi2 ⟨by kernel_rfl, by kernel_rfl, by kernel_rfl⟩ .min (.tmp 102) (.tmp 104) _ rfl (.int .i64 (l.length : Nat)) (.int .i64 (l.length + q : Nat)) (.int .i64 (l.length : Nat)) (by kernel_rfl) (by kernel_rfl) (fun w cs => min_ii _ _ cs (by omega) w) (by kernel_rfl)
        · exact Obl.cutH ⟨by kernel_rfl, by kernel_rfl, by kernel_rfl⟩ _ (.tmp 100) (.tmp 105) rfl (.slice A6 (l.length + q) c6) (.int .i64 (l.length : Nat)) (.slice A6 l.length c6) (by kernel_rfl) (by kernel_rfl) (cut_h _ _ _ _ (by omega) hc6) (by kernel_rfl)
        · exact Obl.str (x := .tmp 106) ⟨by kernel_rfl, by kernel_rfl, by kernel_rfl⟩ 22 5 9 rfl Try.underlying22 Try.underlying5 Try.underlying9 (l) (.inr ⟨A6, l.length, c6, by kernel_rfl, qt⟩) (by kernel_rfl)
        · exact Obl.move ⟨by kernel_rfl, by kernel_rfl, by kernel_rfl⟩ _ (Or.inl rfl) (by kernel_rfl)
        · exact Obl.str (x := .tmp 108) ⟨by kernel_rfl, by kernel_rfl, by kernel_rfl⟩ 22 5 9 rfl Try.underlying22 Try.underlying5 Try.underlying9 (l) (.inr ⟨A, l.length, c, by kernel_rfl, q0⟩) (by kernel_rfl)
        · exact Obl.bin ⟨by kernel_rfl, by kernel_rfl, by kernel_rfl⟩ .eql _ (.tmp 107) (.tmp 109) _ rfl (.string ⟨(l).toArray⟩) (.string ⟨(l).toArray⟩) (.bool true) (by kernel_rfl) (by kernel_rfl) (eql_str _ _ _) (by kernel_rfl)
        · exact Obl.pick trivial _ _ _ rfl true (by kernel_rfl) (by kernel_rfl)
        · exact Obl.move trivial _ (Or.inl rfl) (by kernel_rfl)
        · exact Obl.call ⟨by kernel_rfl, by kernel_rfl, by kernel_rfl⟩ 9 #[] _ rfl Try.f9 Try.func9 (by kernel_rfl) (by kernel_rfl) (fun ev w hb hx => by
            simp only [List.map_toArray, List.map_nil]
            exact (known_any _).mono fun _ _ hh => hh.holds (by kernel_rfl))
        · exact Obl.pick trivial _ _ _ rfl true (by kernel_rfl) (by kernel_rfl)
        · exact Obl.move trivial _ (Or.inr rfl) (by kernel_rfl)
        intro a w7 hb hsz hdf hold hv
        have h8 : a.tmps.getD 8 undef = .bool true := holds_val (hv 66 8 (by kernel_rfl)) (by kernel_rfl)
        obtain ⟨tm, df⟩ := a
        have hdf' : df = [] := hdf
        subst hdf'
        go_wp2
        go_ret
        exact ⟨congrArg _ h8, b6'.drew.trans (hb.mono b6'.size)⟩
end Go.Proofs.Ytpcaanedplbeoaa
