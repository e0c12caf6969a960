/- Contract: octet.Cut. -/
import Derived.Test.YtpcdmcaojgpfoaaCThere
import Derived.Test.YtpcdmcaojgpfoaaCLonger
namespace Go.Proofs.Ytpcdmcaojgpfoaa
open Go.RowKit
set_option linter.unusedVariables false
set_option linter.unusedSimpArgs false
set_option maxRecDepth 20000

/-- Cut, where the place is there. -/
theorem cut_yes (A : Option Addr) (n c : Nat) (l : List UInt8) (w : World) (h : R8 w w.heap.size A n c l) (hn : n ≤ 140737488355328) (i k : Nat) (ht : i + k ≤ n) :
    Calls Try.prog 52 #[.slice A n c, .int .i64 i, .int .i64 k] w (Out8b w ((l.drop i).take k) true) := by
  have hc := h.2.1
  have hi : I64 i := by unfold I64; omega
  have ht' : thB n i k = true := by simp [thB]; omega
  have hcut := fun W => run_cut (P := Try.prog) 26 5 Try.underlying26 u8_size A n c .i64 .i64 i (i + k) (by omega) (by omega) (by omega) W
  have hr := h.cut i (i + k) (by omega) ht
  have e1 : i + k - i = k := by omega
  have e2 : ((i : Int) + (k : Int)).toNat = i + k := by omega
  simp only [e1, e2, Int.toNat_natCast] at hcut hr
  clear e1 e2
  go_enter Try.func52, Try.ntmps52
  go_wp2_with (first | (go_at_call 69; refine (there_any _ _ _ _ _ _ hi (by omega)).mono ?_; rintro e w' ⟨rfl, rfl⟩) | (go_at_call 67; refine (longer_zero _ _ _ _ _ hr (by omega)).mono ?_; rintro e w' ⟨g, m, rfl, hm, hg, hgb, hb⟩))
  go_ret2
  exact ⟨_, _, _, rfl, hg.r8 hm (Nat.le_refl _), hb⟩
theorem cut_no (A : Option Addr) (n c : Nat) (w : World) (hn : n ≤ 140737488355328) (i k : Int) (hi : I64 i) (ht : thB n i k = false) :
    Calls Try.prog 52 #[.slice A n c, .int .i64 i, .int .i64 k] w fun e w' => e = .returned (.tuple #[.slice none 0 0, .bool false]) ∧ w = w' := by
  go_enter Try.func52, Try.ntmps52
  go_wp2_with (first | (go_at_call 69; refine (there_any _ _ _ _ _ _ hi (by omega)).mono ?_; rintro e w' ⟨rfl, rfl⟩))
  go_ret2
  exact ⟨rfl, rfl⟩
section
variable (A : Option Addr) (n c : Nat) (l : List UInt8) (w : World)
theorem cut_any (h : R8 w w.heap.size A n c l) (hn : n ≤ 140737488355328) (i k : Int) (hi : I64 i) :
    Calls Try.prog 52 #[.slice A n c, .int .i64 i, .int .i64 k] w (Out8b w (cut8 l i k) (thB n i k)) := by
  have hl := h.1
  by_cases ht : thB n i k = true
  · obtain ⟨a, b, rfl, rfl, hab⟩ := th_nat ht
    have e1 : cut8 l a b = (l.drop a).take b := by simp [cut8, hl, ht]
    rw [e1, ht]
    exact cut_yes A n c l w h hn a b hab
  · have e1 : cut8 l i k = [] := by simp [cut8, hl, ht]
    have e2 : thB n i k = false := by simpa using ht
    rw [e1, e2]
    exact (cut_no A n c w hn i k hi e2).mono fun e w' ⟨he, hw⟩ => by subst he; subst hw; exact ⟨_, _, _, rfl, R8.nil _ _ _ _, Below.refl _ _⟩
end
end Go.Proofs.Ytpcdmcaojgpfoaa
