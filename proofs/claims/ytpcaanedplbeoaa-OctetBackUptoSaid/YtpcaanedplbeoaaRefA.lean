/- Contracts of the document's own answers: limelightref1's Put, Get, Pad, Cut. -/
import Derived.Test.YtpcaanedplbeoaaApp
namespace Go.Proofs.Ytpcaanedplbeoaa
open Go.RowKit
set_option linter.unusedVariables false
set_option linter.unusedSimpArgs false

theorem ref_put_no (A : Option Addr) (n c : Nat) (l : List UInt8) (w : World) (h : R8 w w.heap.size A n c l) (hn : n ≤ 140737488351232) (x k : Int) (hs' : szB k = false) :
    Calls Try.prog 17 #[.slice A n c, .int .u64 x, .int .i64 k] w (Out8 w l) := by
  have hs0 : k < 1 ∨ 8 < k := by simp [szB] at hs'; omega
  have hbb : ∀ W : World, ([] : List UInt8).length + n ≤ 140737488355328 := fun _ => by simp; omega
  rcases hs0 with h1 | h1
  all_goals
    go_enter Try.func17, Try.ntmps17
    go_wp2_with (at_builtin; with_reducible refine wpList_append8 rfl (.tmp 9) (.tmp 10) rfl rfl w.heap.size _ [] rfl (Own8.empty _ _ (Nat.le_refl _)) w.heap.size A n c l rfl (h.alloc (Nat.le_refl _) _) (hbb w) (by simp) ?_; intro v1 w1 ha1)
    go_ret
    exact ha1.1.out (ha1.below ((Below.refl _ _).alloc (Nat.le_refl _) _) (by simp) (Own8.empty _ _ (Nat.le_refl _)) (Nat.le_refl _))

/-- ref.Put, where size is right. -/
theorem ref_put_yes (A : Option Addr) (n c : Nat) (l : List UInt8) (w : World) (h : R8 w w.heap.size A n c l) (hn : n ≤ 140737488351232) (x k : Nat) (hk : 1 ≤ k) (hk8 : k ≤ 8) (hx : x < 18446744073709551616) :
    Calls Try.prog 17 #[.slice A n c, .int .u64 x, .int .i64 k] w (Out8 w (l ++ be x k)) := by
  have hbb : ∀ W : World, ([] : List UInt8).length + n ≤ 140737488355328 := fun _ => by simp; omega
  have hl := Lib.hid h.1
  have g1 : decide ((k : Int) < 1) = false := by simp; omega
  have g2 : decide ((8 : Int) < (k : Int)) = false := by simp; omega
  go_enter Try.func17, Try.ntmps17
  go_wp2_with (at_builtin; with_reducible refine wpList_append8 rfl (.tmp 9) (.tmp 10) rfl rfl w.heap.size _ [] rfl (Own8.empty _ _ (Nat.le_refl _)) w.heap.size A n c l rfl (h.alloc (Nat.le_refl _) _) (hbb w) (by simp) ?_; intro v1 w1 ha1)
  have hb1 := ha1.below ((Below.refl _ _).alloc (Nat.le_refl _) _) (by simp) (Own8.empty _ _ (Nat.le_refl _)) (Nat.le_refl _)
  have ho1 := ha1.1
  clear ha1 h
  go_loopw [7, 8] (fun v i wr => ∃ q : Nat, q ≤ k ∧ i = .int .i64 ((k : Int) - 1 - q) ∧ Own8 wr w.heap.size v (l ++ be (x / 256 ^ (k - q)) q) ∧ Below w.heap.size w wr) (fun _ i _ => ((intOf i) + 1).toNat)
  case atStart => exact ⟨0, Nat.zero_le _, by simp, by simpa [be] using ho1, hb1⟩
  case round =>
    obtain ⟨q, hq, rfl, hor, hbr⟩ := hrel
    by_cases hlt : q < k
    · have hsz := hbr.size
      have hx8 := Lib.hid (show ((x : Int) / 2 ^ (8 * (k - 1 - q)) % 256) = (((UInt8.ofNat (x / 256 ^ (k - (q + 1)))).toNat : Nat) : Int) by
        have e : (2 : Nat) ^ (8 * (k - 1 - q)) = 256 ^ (k - (q + 1)) := by rw [Nat.pow_mul, show k - (q + 1) = k - 1 - q by omega]
        simp [← e])
      have hlb := Lib.hid (show (l ++ be (x / 256 ^ (k - q)) q).length + 1 ≤ 140737488355328 by simp [be_len, hl.out]; omega)
      have hrow := Lib.hid (show (l ++ be (x / 256 ^ (k - q)) q) ++ [UInt8.ofNat (x / 256 ^ (k - (q + 1)))] = l ++ be (x / 256 ^ (k - (q + 1))) (q + 1) by
        rw [be, Nat.div_div_eq_div_mul, ← Nat.pow_succ, show (k - (q + 1)).succ = k - q by omega, List.append_assoc])
      go_wp2_with (at_builtin; with_reducible refine wpList_append8 rfl (.tmp 25) (.tmp 32) rfl rfl w.heap.size _ _ rfl (hor.alloc _) (wr.heap.size + 1) _ 1 1 [UInt8.ofNat (x / 256 ^ (k - (q + 1)))] rfl (one_r8 _ _ _ hx8.out) hlb.out (le_alloc hsz _) ?_; intro v2 w2 ha2)
      have hb2 := ha2.below (hbr.alloc hsz _) (le_alloc hsz _) (hor.alloc _) (Nat.le_refl _)
      go_roundw
      case rel =>
        refine ⟨q + 1, by omega, by go_num, ?_, hb2⟩
        rw [← hrow.out]
        exact ha2.1
      case measure => simp [intOf]; omega
    · have hqk : q = k := by omega
      rw [hqk, Nat.sub_self, Nat.pow_zero, Nat.div_one] at hor
      go_wp2
      go_ret
      exact hor.out hbr

/-- ref.Cut -/
theorem ref_cut_yes (A : Option Addr) (n c : Nat) (l : List UInt8) (w : World) (h : R8 w w.heap.size A n c l) (hn : n ≤ 140737488355328) (i k : Nat) (ht : i + k ≤ n) :
    Calls Try.prog 16 #[.slice A n c, .int .i64 i, .int .i64 k] w (Out8b w ((l.drop i).take k) true) := by
  have hc := h.2.1
  have g1 : decide ((i : Int) < 0) = false := by simp
  have g2 : decide ((k : Int) < 0) = false := by simp
  have g3 : decide ((n : Int) < (i : Int)) = false := by simp; omega
  have g4 : decide ((n : Int) - (i : Int) < (k : Int)) = false := by simp; omega
  have hcut := fun W => run_cut (P := Try.prog) 22 5 Try.underlying22 u8_size A n c .i64 .i64 i (i + k) (by omega) (by omega) (by omega) W
  have hr := h.cut i (i + k) (by omega) ht
  have e1 : i + k - i = k := by omega
  have e2 : ((i : Int) + (k : Int)).toNat = i + k := by omega
  simp only [e1, e2, Int.toNat_natCast] at hcut hr
  clear e1 e2
  obtain ⟨L, hL⟩ : ∃ L, L = (l.drop i).take k := ⟨_, rfl⟩
  rw [← hL] at hr ⊢
  clear hL h
  have hbb : ([] : List UInt8).length + k ≤ 140737488355328 := by simp; omega
  go_enter Try.func16, Try.ntmps16
  go_wp2_with (at_builtin; with_reducible refine wpList_append8 rfl (.tmp 28) (.tmp 34) rfl rfl w.heap.size _ [] rfl (Own8.empty _ _ (Nat.le_refl _)) w.heap.size _ k _ L rfl (hr.alloc (Nat.le_refl _) _) hbb (by simp) ?_; intro v1 w1 ha1)
  go_ret2
  have hb1 := ha1.below ((Below.refl _ _).alloc (Nat.le_refl _) _) (by simp) (Own8.empty _ _ (Nat.le_refl _)) (Nat.le_refl _)
  obtain ⟨A1, c1, hv1, hr1⟩ := ha1.1.r8
  exact ⟨A1, _, c1, by rw [← hv1]; rfl, hr1, hb1⟩
theorem ref_cut_no (A : Option Addr) (n c : Nat) (w : World) (hn : n ≤ 140737488355328) (i k : Int) (hi : I64 i) (ht : thB n i k = false) :
    Calls Try.prog 16 #[.slice A n c, .int .i64 i, .int .i64 k] w fun e w' => e = .returned (.tuple #[.slice none 0 0, .bool false]) ∧ w = w' := by
  have ht' : i < 0 ∨ k < 0 ∨ (n : Int) - i < k := by simp [thB] at ht; omega
  by_cases c1 : i < 0
  · have g1 : decide (i < 0) = true := by simp; omega
    clear ht ht'
    go_enter Try.func16, Try.ntmps16
    go_wp2
    go_ret2
    exact ⟨rfl, rfl⟩
  · have g1 : decide (i < 0) = false := by simp; omega
    by_cases c2 : k < 0
    · have g2 : decide (k < 0) = true := by simp; omega
      clear ht ht'
      go_enter Try.func16, Try.ntmps16
      go_wp2
      go_ret2
      exact ⟨rfl, rfl⟩
    · have g2 : decide (k < 0) = false := by simp; omega
      by_cases c3 : (n : Int) < i
      · have g3 : decide ((n : Int) < i) = true := by simp; omega
        clear ht ht'
        go_enter Try.func16, Try.ntmps16
        go_wp2
        go_ret2
        exact ⟨rfl, rfl⟩
      · have g3 : decide ((n : Int) < i) = false := by simp; omega
        have g4 : decide ((n : Int) - i < k) = true := by simp; omega
        have c3' : i ≤ (n : Int) := by omega
        have c1' : 0 ≤ i := by omega
        clear ht ht'
        go_enter Try.func16, Try.ntmps16
        go_wp2
        go_ret2
        exact ⟨rfl, rfl⟩

theorem ref_get_no (A : Option Addr) (n c : Nat) (w : World) (hn : n ≤ 140737488355328) (i k : Int) (hi : I64 i) (ht : szB k = false ∨ thB n i k = false) :
    Calls Try.prog 15 #[.slice A n c, .int .i64 i, .int .i64 k] w fun e w' => e = .returned (.tuple #[.int .u64 0, .bool false]) ∧ w = w' := by
  have ht' : k < 1 ∨ 8 < k ∨ i < 0 ∨ (n : Int) - i < k := by simp [thB, szB] at ht; omega
  clear ht
  by_cases c1 : k < 1
  · have g1 : decide (k < 1) = true := by simp; omega
    clear ht'
    go_enter Try.func15, Try.ntmps15
    go_wp2
    go_ret2
    exact ⟨rfl, rfl⟩
  · have g1 : decide (k < 1) = false := by simp; omega
    by_cases c2 : 8 < k
    · have g2 : decide (8 < k) = true := by simp; omega
      clear ht'
      go_enter Try.func15, Try.ntmps15
      go_wp2
      go_ret2
      exact ⟨rfl, rfl⟩
    · have g2 : decide (8 < k) = false := by simp; omega
      by_cases c0 : i < 0
      · have g0 : decide (i < 0) = true := by simp; omega
        clear ht'
        go_enter Try.func15, Try.ntmps15
        go_wp2
        go_ret2
        exact ⟨rfl, rfl⟩
      · have g0 : decide (i < 0) = false := by simp; omega
        by_cases c3 : (n : Int) < i
        · have g3 : decide ((n : Int) < i) = true := by simp; omega
          clear ht'
          go_enter Try.func15, Try.ntmps15
          go_wp2
          go_ret2
          exact ⟨rfl, rfl⟩
        · have g3 : decide ((n : Int) < i) = false := by simp; omega
          have g4 : decide ((n : Int) - i < k) = true := by simp; omega
          have c3' : i ≤ (n : Int) := by omega
          have c1' : 0 ≤ i := by omega
          clear ht'
          go_enter Try.func15, Try.ntmps15
          go_wp2
          go_ret2
          exact ⟨rfl, rfl⟩

theorem ref_get_yes (A : Option Addr) (n c : Nat) (l : List UInt8) (w : World) (h : R8 w w.heap.size A n c l) (hn : n ≤ 140737488355328) (i k : Nat) (hk : 1 ≤ k) (hk8 : k ≤ 8) (ht : i + k ≤ n) :
    Calls Try.prog 15 #[.slice A n c, .int .i64 i, .int .i64 k] w fun e w' => e = .returned (.tuple #[.int .u64 (num ((l.drop i).take k)), .bool true]) ∧ w = w' := by
  have g1 : decide ((k : Int) < 1) = false := by simp; omega
  have g2 : decide ((8 : Int) < (k : Int)) = false := by simp; omega
  have g0 : decide ((i : Int) < 0) = false := by simp
  have g3 : decide ((n : Int) < (i : Int)) = false := by simp; omega
  have g4 : decide ((n : Int) - (i : Int) < (k : Int)) = false := by simp; omega
  obtain ⟨b, off, rfl, hb, hcell⟩ := h.2.2 (by omega)
  have hl := Lib.hid h.1
  obtain ⟨L, hL⟩ : ∃ L, L = (l.drop i).take k := ⟨_, rfl⟩
  rw [← hL]
  have hLk : L.length = k := by rw [hL]; simp [hl.out]; omega
  have hLi : ∀ q, q < k → l.getD (i + q) 0 = L[q]?.getD 0 := by
    intro q hq
    rw [hL]
    simp [List.getD, List.getElem?_take, List.getElem?_drop, hq]
  have HL := Lib.hid hLk
  have HI := Lib.hid hLi
  clear hL hLk hLi h
  go_enter Try.func15, Try.ntmps15
  go_wp2
  go_loop [8, 9] (fun x j => ∃ q : Nat, q ≤ k ∧ j = .int .i64 q ∧ x = .int .u64 (num (L.take q) : Nat)) (fun _ j => k - (intOf j).toNat)
  case atStart => exact ⟨0, Nat.zero_le _, rfl, by simp [num]⟩
  case round =>
    obtain ⟨q, hq, rfl, rfl⟩ := hrel
    by_cases hlt : q < k
    · have hcq := hcell (i + q) (by omega)
      rw [HI.out q hlt] at hcq
      have hnt := num_take_lt L q (by omega)
      have hst := Lib.hid (num_step L q (by rw [HL.out]; exact hlt) (by omega))
      go_wp2
      go_round
      case rel => exact ⟨q + 1, by omega, by go_num, by rw [hst.out]⟩
      case measure => simp [intOf]; omega
    · have hqk : q = k := by omega
      have hT := Lib.hid (show L.take q = L by rw [List.take_of_length_le]; rw [HL.out]; omega)
      clear hqk
      go_wp2
      go_ret2
      exact ⟨by rw [hT.out]; rfl, rfl⟩
end Go.Proofs.Ytpcaanedplbeoaa
