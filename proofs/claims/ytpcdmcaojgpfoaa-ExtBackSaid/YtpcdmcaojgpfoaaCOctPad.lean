/- Contract: octet.Pad. -/
import Derived.Test.YtpcdmcaojgpfoaaCLonger
namespace Go.Proofs.Ytpcdmcaojgpfoaa
open Go.RowKit
set_option linter.unusedVariables false
set_option linter.unusedSimpArgs false
set_option maxRecDepth 20000

theorem pad_any (A : Option Addr) (n c : Nat) (l : List UInt8) (w : World) (h : R8 w w.heap.size A n c l) (hn : n ≤ 140737488355328) (t : Int) :
    Calls Try.prog 49 #[.slice A n c, .int .i64 t] w (New8 w (l ++ List.replicate (padN n t) 0)) := by
  by_cases h1 : 1 ≤ t
  · by_cases h2 : t ≤ 64
    · obtain ⟨k, rfl⟩ := Int.eq_ofNat_of_zero_le (show 0 ≤ t by omega)
      have hk := Nat.mod_lt n (show 0 < k by omega)
      have g1 : decide ((k : Int) < 1) = false := by simp; omega
      have g2 : decide ((64 : Int) < (k : Int)) = false := by simp; omega
      by_cases h3 : n % k = 0
      · have hp : padN n k = 0 := by simp [padN, h3]
        rw [hp, List.replicate_zero, List.append_nil]
        have h3' : ((n : Int) % (k : Int) == 0) = true := by simp; omega
        clear hp h3
        go_enter Try.func49, Try.ntmps49
        go_wp2_with (first | (go_at_call 67; refine (longer_zero _ _ _ _ _ h (by omega)).mono ?_; rintro e w' ⟨g, m, rfl, hm, hg, hgb, hb⟩))
        go_ret
        exact ⟨_, _, rfl, hm, hg, hgb, hb⟩
      · have hp : padN n k = k - n % k := by
          simp [padN, h1, h2]
          rw [Nat.mod_eq_of_lt (by omega)]
        rw [hp]
        have h3' : ((n : Int) % (k : Int) == 0) = false := by simp; omega
        have e1 : ((k : Int) - (n : Int) % (k : Int)) = ((k - n % k : Nat) : Int) := by omega
        have hl := fun (w' : World) hh => longer_any A n c (k - n % k) l w' hh (by omega)
        rw [← e1] at hl
        have hl := Lib.hid (hl w h)
        clear hp h3 e1
        go_enter Try.func49, Try.ntmps49
        go_wp2_with (first | (go_at_call 67; refine hl.out.mono ?_; rintro e w' ⟨g, m, rfl, hm, hg, hgb, hb⟩))
        go_ret
        exact ⟨_, _, rfl, hm, hg, hgb, hb⟩
    · have hp : padN n t = 0 := by simp [padN]; omega
      rw [hp, List.replicate_zero, List.append_nil]
      have g2 : decide ((64 : Int) < t) = true := by simp; omega
      clear hp
      go_enter Try.func49, Try.ntmps49
      go_wp2_with (first | (go_at_call 67; refine (longer_zero _ _ _ _ _ h (by omega)).mono ?_; rintro e w' ⟨g, m, rfl, hm, hg, hgb, hb⟩))
      go_ret
      exact ⟨_, _, rfl, hm, hg, hgb, hb⟩
  · have hp : padN n t = 0 := by simp [padN]; omega
    rw [hp, List.replicate_zero, List.append_nil]
    have g2 : decide (t < 1) = true := by simp; omega
    clear hp
    go_enter Try.func49, Try.ntmps49
    go_wp2_with (first | (go_at_call 67; refine (longer_zero _ _ _ _ _ h (by omega)).mono ?_; rintro e w' ⟨g, m, rfl, hm, hg, hgb, hb⟩))
    go_ret
    exact ⟨_, _, rfl, hm, hg, hgb, hb⟩
section
variable (A : Option Addr) (n c : Nat) (l : List UInt8) (w : World)
theorem pad_all (h : R8 w w.heap.size A n c l) (hn : n ≤ 140737488355328) (k : Int) :
    Calls Try.prog 49 #[.slice A n c, .int .i64 k] w (Out8 w (padL l k)) := by
  have hl := h.1
  subst hl
  exact (pad_any A _ c l w h hn k).mono fun _ _ h => h.out
end
end Go.Proofs.Ytpcdmcaojgpfoaa
