/- Contract: limelightref1.Cut. -/
import Derived.Test.YtpcdmcaojgpfoaaBase
namespace Go.Proofs.Ytpcdmcaojgpfoaa
open Go.RowKit
set_option linter.unusedVariables false
set_option linter.unusedSimpArgs false
set_option maxRecDepth 20000

/-- ref.Cut -/
theorem ref_cut_yes (A : Option Addr) (n c : Nat) (l : List UInt8) (w : World) (h : R8 w w.heap.size A n c l) (hn : n ≤ 140737488355328) (i k : Nat) (ht : i + k ≤ n) :
    Calls Try.prog 65 #[.slice A n c, .int .i64 i, .int .i64 k] w (Out8b w ((l.drop i).take k) true) := by
  have hc := h.2.1
  have g1 : decide ((i : Int) < 0) = false := by simp
  have g2 : decide ((k : Int) < 0) = false := by simp
  have g3 : decide ((n : Int) < (i : Int)) = false := by simp; omega
  have g4 : decide ((n : Int) - (i : Int) < (k : Int)) = false := by simp; omega
  have hcut := fun W => run_cut (P := Try.prog) 26 5 Try.underlying26 u8_size A n c .i64 .i64 i (i + k) (by omega) (by omega) (by omega) W
  have hr := h.cut i (i + k) (by omega) ht
  have e1 : i + k - i = k := by omega
  have e2 : ((i : Int) + (k : Int)).toNat = i + k := by omega
  simp only [e1, e2, Int.toNat_natCast] at hcut hr
  clear e1 e2
  obtain ⟨L, hL⟩ : ∃ L, L = (l.drop i).take k := ⟨_, rfl⟩
  rw [← hL] at hr ⊢
  clear hL h
  have hbb : ([] : List UInt8).length + k ≤ 140737488355328 := by simp; omega
  go_enter Try.func65, Try.ntmps65
  go_wp2_with (at_builtin; with_reducible refine wpList_append8 rfl (.tmp 28) (.tmp 34) rfl rfl w.heap.size _ [] rfl (Own8.empty _ _ (Nat.le_refl _)) w.heap.size _ k _ L rfl (hr.alloc (Nat.le_refl _) _) hbb (by simp) ?_; intro v1 w1 ha1)
  go_ret2
  have hb1 := ha1.below ((Below.refl _ _).alloc (Nat.le_refl _) _) (by simp) (Own8.empty _ _ (Nat.le_refl _)) (Nat.le_refl _)
  obtain ⟨A1, c1, hv1, hr1⟩ := ha1.1.r8
  exact ⟨A1, _, c1, by rw [← hv1]; rfl, hr1, hb1⟩
theorem ref_cut_no (A : Option Addr) (n c : Nat) (w : World) (hn : n ≤ 140737488355328) (i k : Int) (hi : I64 i) (ht : thB n i k = false) :
    Calls Try.prog 65 #[.slice A n c, .int .i64 i, .int .i64 k] w fun e w' => e = .returned (.tuple #[.slice none 0 0, .bool false]) ∧ w = w' := by
  have ht' : i < 0 ∨ k < 0 ∨ (n : Int) - i < k := by simp [thB] at ht; omega
  by_cases c1 : i < 0
  · have g1 : decide (i < 0) = true := by simp; omega
    clear ht ht'
    go_enter Try.func65, Try.ntmps65
    go_wp2
    go_ret2
    exact ⟨rfl, rfl⟩
  · have g1 : decide (i < 0) = false := by simp; omega
    by_cases c2 : k < 0
    · have g2 : decide (k < 0) = true := by simp; omega
      clear ht ht'
      go_enter Try.func65, Try.ntmps65
      go_wp2
      go_ret2
      exact ⟨rfl, rfl⟩
    · have g2 : decide (k < 0) = false := by simp; omega
      by_cases c3 : (n : Int) < i
      · have g3 : decide ((n : Int) < i) = true := by simp; omega
        clear ht ht'
        go_enter Try.func65, Try.ntmps65
        go_wp2
        go_ret2
        exact ⟨rfl, rfl⟩
      · have g3 : decide ((n : Int) < i) = false := by simp; omega
        have g4 : decide ((n : Int) - i < k) = true := by simp; omega
        have c3' : i ≤ (n : Int) := by omega
        have c1' : 0 ≤ i := by omega
        clear ht ht'
        go_enter Try.func65, Try.ntmps65
        go_wp2
        go_ret2
        exact ⟨rfl, rfl⟩
section
variable (A : Option Addr) (n c : Nat) (l : List UInt8) (w : World)
theorem ref_cut_any (h : R8 w w.heap.size A n c l) (hn : n ≤ 140737488355328) (i k : Int) (hi : I64 i) :
    Calls Try.prog 65 #[.slice A n c, .int .i64 i, .int .i64 k] w (Out8b w (cut8 l i k) (thB n i k)) := by
  have hl := h.1
  by_cases ht : thB n i k = true
  · obtain ⟨a, b, rfl, rfl, hab⟩ := th_nat ht
    have e1 : cut8 l a b = (l.drop a).take b := by simp [cut8, hl, ht]
    rw [e1, ht]
    exact ref_cut_yes A n c l w h hn a b hab
  · have e1 : cut8 l i k = [] := by simp [cut8, hl, ht]
    have e2 : thB n i k = false := by simpa using ht
    rw [e1, e2]
    exact (ref_cut_no A n c w hn i k hi e2).mono fun e w' ⟨he, hw⟩ => by subst he; subst hw; exact ⟨_, _, _, rfl, R8.nil _ _ _ _, Below.refl _ _⟩
end
end Go.Proofs.Ytpcdmcaojgpfoaa
