/- Contract: limelightref1.Get. -/
import Derived.Test.YtnchgmemajmkjaaBase
namespace Go.Proofs.Ytnchgmemajmkjaa
open Go.RowKit
set_option linter.unusedVariables false
set_option linter.unusedSimpArgs false
set_option maxRecDepth 20000

theorem ref_get_no (A : Option Addr) (n c : Nat) (w : World) (hn : n ≤ 140737488355328) (i k : Int) (hi : I64 i) (ht : szB k = false ∨ thB n i k = false) :
    Calls Try.prog 55 #[.slice A n c, .int .i64 i, .int .i64 k] w fun e w' => e = .returned (.tuple #[.int .u64 0, .bool false]) ∧ w = w' := by
  have ht' : k < 1 ∨ 8 < k ∨ i < 0 ∨ (n : Int) - i < k := by simp [thB, szB] at ht; omega
  clear ht
  by_cases c1 : k < 1
  · have g1 : decide (k < 1) = true := by simp; omega
    clear ht'
    go_enter Try.func55, Try.ntmps55
    go_wp2
    go_ret2
    exact ⟨rfl, rfl⟩
  · have g1 : decide (k < 1) = false := by simp; omega
    by_cases c2 : 8 < k
    · have g2 : decide (8 < k) = true := by simp; omega
      clear ht'
      go_enter Try.func55, Try.ntmps55
      go_wp2
      go_ret2
      exact ⟨rfl, rfl⟩
    · have g2 : decide (8 < k) = false := by simp; omega
      by_cases c0 : i < 0
      · have g0 : decide (i < 0) = true := by simp; omega
        clear ht'
        go_enter Try.func55, Try.ntmps55
        go_wp2
        go_ret2
        exact ⟨rfl, rfl⟩
      · have g0 : decide (i < 0) = false := by simp; omega
        by_cases c3 : (n : Int) < i
        · have g3 : decide ((n : Int) < i) = true := by simp; omega
          clear ht'
          go_enter Try.func55, Try.ntmps55
          go_wp2
          go_ret2
          exact ⟨rfl, rfl⟩
        · have g3 : decide ((n : Int) < i) = false := by simp; omega
          have g4 : decide ((n : Int) - i < k) = true := by simp; omega
          have c3' : i ≤ (n : Int) := by omega
          have c1' : 0 ≤ i := by omega
          clear ht'
          go_enter Try.func55, Try.ntmps55
          go_wp2
          go_ret2
          exact ⟨rfl, rfl⟩
theorem ref_get_yes (A : Option Addr) (n c : Nat) (l : List UInt8) (w : World) (h : R8 w w.heap.size A n c l) (hn : n ≤ 140737488355328) (i k : Nat) (hk : 1 ≤ k) (hk8 : k ≤ 8) (ht : i + k ≤ n) :
    Calls Try.prog 55 #[.slice A n c, .int .i64 i, .int .i64 k] w fun e w' => e = .returned (.tuple #[.int .u64 (num ((l.drop i).take k)), .bool true]) ∧ w = w' := by
  have g1 : decide ((k : Int) < 1) = false := by simp; omega
  have g2 : decide ((8 : Int) < (k : Int)) = false := by simp; omega
  have g0 : decide ((i : Int) < 0) = false := by simp
  have g3 : decide ((n : Int) < (i : Int)) = false := by simp; omega
  have g4 : decide ((n : Int) - (i : Int) < (k : Int)) = false := by simp; omega
  obtain ⟨b, off, rfl, hb, hcell⟩ := h.2.2 (by omega)
  have hl := Lib.hid h.1
  obtain ⟨L, hL⟩ : ∃ L, L = (l.drop i).take k := ⟨_, rfl⟩
  rw [← hL]
  have hLk : L.length = k := by rw [hL]; simp [hl.out]; omega
  have hLi : ∀ q, q < k → l.getD (i + q) 0 = L[q]?.getD 0 := by
    intro q hq
    rw [hL]
    simp [List.getD, List.getElem?_take, List.getElem?_drop, hq]
  have HL := Lib.hid hLk
  have HI := Lib.hid hLi
  clear hL hLk hLi h
  go_enter Try.func55, Try.ntmps55
  go_wp2
  go_loop [8, 9] (fun x j => ∃ q : Nat, q ≤ k ∧ j = .int .i64 q ∧ x = .int .u64 (num (L.take q) : Nat)) (fun _ j => k - (intOf j).toNat)
  case atStart => exact ⟨0, Nat.zero_le _, rfl, by simp [num]⟩
  case round =>
    obtain ⟨q, hq, rfl, rfl⟩ := hrel
    by_cases hlt : q < k
    · have hcq := hcell (i + q) (by omega)
      rw [HI.out q hlt] at hcq
      have hnt := num_take_lt L q (by omega)
      have hst := Lib.hid (num_step L q (by rw [HL.out]; exact hlt) (by omega))
      go_wp2
      go_round
      case rel => exact ⟨q + 1, by omega, by go_num, by rw [hst.out]⟩
      case measure => simp [intOf]; omega
    · have hqk : q = k := by omega
      have hT := Lib.hid (show L.take q = L by rw [List.take_of_length_le]; rw [HL.out]; omega)
      clear hqk
      go_wp2
      go_ret2
      exact ⟨by rw [hT.out]; rfl, rfl⟩
section
variable (A : Option Addr) (n c : Nat) (l : List UInt8) (w : World)
theorem ref_get_any (h : R8 w w.heap.size A n c l) (hn : n ≤ 140737488355328) (i k : Int) (hi : I64 i) :
    Calls Try.prog 55 #[.slice A n c, .int .i64 i, .int .i64 k] w fun e w' => e = .returned (.tuple #[.int .u64 (getN l i k), .bool (getB n i k)]) ∧ w = w' := by
  have hl := h.1
  by_cases hs : szB k = true
  · by_cases ht : thB n i k = true
    · obtain ⟨b, rfl, h1, h8⟩ := sz_nat hs
      obtain ⟨a, b', rfl, hb', hab⟩ := th_nat ht
      have : b' = b := by omega
      subst this
      have e1 : getN l a b' = num ((l.drop a).take b') := by simp [getN, hs, hl, ht]
      have e2 : getB n a b' = true := by simp [getB, hs, ht]
      rw [e1, e2]
      exact ref_get_yes A n c l w h hn a b' h1 h8 hab
    · have e1 : getN l i k = 0 := by simp [getN, hl, ht]
      have e2 : getB n i k = false := by simp [getB, ht]
      rw [e1, e2]
      exact ref_get_no A n c w hn i k hi (.inr (by simpa using ht))
  · have e1 : getN l i k = 0 := by simp [getN, hs]
    have e2 : getB n i k = false := by simp [getB, hs]
    rw [e1, e2]
    exact ref_get_no A n c w hn i k hi (.inl (by simpa using hs))
end
end Go.Proofs.Ytnchgmemajmkjaa
