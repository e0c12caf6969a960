/- Contract: octet.Get. -/
import Derived.Test.YtpcdmcaojgpfoaaCThere
import Derived.Test.YtpcdmcaojgpfoaaCSized
namespace Go.Proofs.Ytpcdmcaojgpfoaa
open Go.RowKit
set_option linter.unusedVariables false
set_option linter.unusedSimpArgs false
set_option maxRecDepth 20000

/-- Get, where size is right and the place is there. -/
theorem get_yes (A : Option Addr) (n c : Nat) (l : List UInt8) (w : World) (h : R8 w w.heap.size A n c l) (hn : n ≤ 140737488355328) (i k : Nat) (hk : 1 ≤ k) (hk8 : k ≤ 8) (ht : i + k ≤ n) :
    Calls Try.prog 68 #[.slice A n c, .int .i64 i, .int .i64 k] w fun e w' => e = .returned (.tuple #[.int .u64 (num ((l.drop i).take k)), .bool true]) ∧ w = w' := by
  have hc := h.2.1
  have hi : I64 i := by unfold I64; omega
  have ht' : thB n i k = true := by simp [thB]; omega
  have hs' : szB k = true := by simp [szB]; omega
  have hcut := fun W => run_cut (P := Try.prog) 26 5 Try.underlying26 u8_size A n c .i64 .i64 i (i + k) (by omega) (by omega) (by omega) W
  have hr := h.cut i (i + k) (by omega) ht
  have e1 : i + k - i = k := by omega
  have e2 : ((i : Int) + (k : Int)).toNat = i + k := by omega
  simp only [e1, e2, Int.toNat_natCast] at hcut hr
  clear e1 e2
  obtain ⟨L, hL⟩ : ∃ L, L = (l.drop i).take k := ⟨_, rfl⟩
  rw [← hL] at hr ⊢
  clear hL
  obtain ⟨b, off, hA, hb, hcell⟩ := hr.2.2 (by omega)
  rw [hA] at hcut
  have hLk := Lib.hid hr.1
  clear hA hr
  go_enter Try.func68, Try.ntmps68
  go_wp2_with (first | (go_at_call 73; refine (sized_any _ _).mono ?_; rintro e w' ⟨rfl, rfl⟩) | (go_at_call 69; refine (there_any _ _ _ _ _ _ hi (by omega)).mono ?_; rintro e w' ⟨rfl, rfl⟩))
  go_loop [8, 10, 28] (fun x y j => ∃ q : Nat, q ≤ k ∧ j = .int .i64 q ∧ x = .int .u64 (num (L.take q) : Nat)) (fun _ _ j => k - (intOf j).toNat)
  case atStart => exact ⟨0, Nat.zero_le _, rfl, by simp [num]⟩
  case round =>
    obtain ⟨q, hq, rfl, rfl⟩ := hrel
    by_cases hlt : q < k
    · have hcq := hcell q hlt
      have hnt := num_take_lt L q (by omega)
      have hst := Lib.hid (num_step L q (by rw [hLk.out]; exact hlt) (by omega))
      go_wp2
      go_round
      case rel => exact ⟨q + 1, by omega, by go_num, by rw [hst.out]⟩
      case measure => simp [intOf]; omega
    · have hqk : q = k := by omega
      have hT := Lib.hid (show L.take q = L by rw [List.take_of_length_le]; rw [hLk.out]; omega)
      clear hqk
      go_wp2
      go_ret2
      exact ⟨by rw [hT.out]; rfl, rfl⟩
theorem get_no (A : Option Addr) (n c : Nat) (w : World) (hn : n ≤ 140737488355328) (i k : Int) (hi : I64 i) (ht : szB k = false ∨ thB n i k = false) :
    Calls Try.prog 68 #[.slice A n c, .int .i64 i, .int .i64 k] w fun e w' => e = .returned (.tuple #[.int .u64 0, .bool false]) ∧ w = w' := by
  by_cases hs : szB k = true
  · have ht' : thB n i k = false := ht.resolve_left (by simp [hs])
    clear ht
    go_enter Try.func68, Try.ntmps68
    go_wp2_with (first | (go_at_call 73; refine (sized_any _ _).mono ?_; rintro e w' ⟨rfl, rfl⟩) | (go_at_call 69; refine (there_any _ _ _ _ _ _ hi (by omega)).mono ?_; rintro e w' ⟨rfl, rfl⟩))
    go_ret2
    exact ⟨rfl, rfl⟩
  · have hs' : szB k = false := by simpa using hs
    clear hs ht
    go_enter Try.func68, Try.ntmps68
    go_wp2_with (first | (go_at_call 73; refine (sized_any _ _).mono ?_; rintro e w' ⟨rfl, rfl⟩))
    go_ret2
    exact ⟨rfl, rfl⟩
section
variable (A : Option Addr) (n c : Nat) (l : List UInt8) (w : World)
theorem get_any (h : R8 w w.heap.size A n c l) (hn : n ≤ 140737488355328) (i k : Int) (hi : I64 i) :
    Calls Try.prog 68 #[.slice A n c, .int .i64 i, .int .i64 k] w fun e w' => e = .returned (.tuple #[.int .u64 (getN l i k), .bool (getB n i k)]) ∧ w = w' := by
  have hl := h.1
  by_cases hs : szB k = true
  · by_cases ht : thB n i k = true
    · obtain ⟨b, rfl, h1, h8⟩ := sz_nat hs
      obtain ⟨a, b', rfl, hb', hab⟩ := th_nat ht
      have : b' = b := by omega
      subst this
      have e1 : getN l a b' = num ((l.drop a).take b') := by simp [getN, hs, hl, ht]
      have e2 : getB n a b' = true := by simp [getB, hs, ht]
      rw [e1, e2]
      exact get_yes A n c l w h hn a b' h1 h8 hab
    · have e1 : getN l i k = 0 := by simp [getN, hl, ht]
      have e2 : getB n i k = false := by simp [getB, ht]
      rw [e1, e2]
      exact get_no A n c w hn i k hi (.inr (by simpa using ht))
  · have e1 : getN l i k = 0 := by simp [getN, hs]
    have e2 : getB n i k = false := by simp [getB, hs]
    rw [e1, e2]
    exact get_no A n c w hn i k hi (.inl (by simpa using hs))
end
end Go.Proofs.Ytpcdmcaojgpfoaa
