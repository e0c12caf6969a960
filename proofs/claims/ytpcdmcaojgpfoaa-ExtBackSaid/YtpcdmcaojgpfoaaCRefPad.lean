/- Contract: limelightref1.Pad. -/
import Derived.Test.YtpcdmcaojgpfoaaBase
namespace Go.Proofs.Ytpcdmcaojgpfoaa
open Go.RowKit
set_option linter.unusedVariables false
set_option linter.unusedSimpArgs false
set_option maxRecDepth 20000

theorem ref_pad_any (A : Option Addr) (n c : Nat) (l : List UInt8) (w : World) (h : R8 w w.heap.size A n c l) (hn : n ≤ 140737488351232) (t : Int) :
    Calls Try.prog 33 #[.slice A n c, .int .i64 t] w (Out8 w (l ++ List.replicate (padN n t) 0)) := by
  have hl := h.1
  subst hl
  have hbb : ([] : List UInt8).length + l.length ≤ 140737488355328 := by simp; omega
  by_cases h1 : 1 ≤ t
  · by_cases h2 : t ≤ 64
    · obtain ⟨k, rfl⟩ := Int.eq_ofNat_of_zero_le (show 0 ≤ t by omega)
      have g1 : decide ((1 : Int) ≤ (k : Int)) = true := by simp; omega
      have g2 : decide ((k : Int) ≤ 64) = true := by simp; omega
      have HP := Lib.hid (pad_lt l.length k · (by omega) (by omega))
      have HE := Lib.hid (pad_eq l.length k (by omega) (by omega))
      have hp64 := padN_lt l.length k
      generalize padN l.length k = p at HP HE hp64 ⊢
      go_enter Try.func33, Try.ntmps33
      go_wp2_with (at_builtin; with_reducible refine wpList_append8 rfl (.tmp 6) (.tmp 7) rfl rfl w.heap.size _ [] rfl (Own8.empty _ _ (Nat.le_refl _)) w.heap.size A l.length c l rfl (h.alloc (Nat.le_refl _) _) hbb (by simp) ?_; intro v1 w1 ha1)
      have hb1 := ha1.below ((Below.refl _ _).alloc (Nat.le_refl _) _) (by simp) (Own8.empty _ _ (Nat.le_refl _)) (Nat.le_refl _)
      have ho1 := ha1.1
      clear ha1 h
      go_loopw [5] (fun v wr => ∃ q : Nat, q ≤ p ∧ Own8 wr w.heap.size v (l ++ List.replicate q 0) ∧ Below w.heap.size w wr) (fun v _ => p - (lenOf v - l.length))
      case atStart => exact ⟨0, Nat.zero_le _, by simpa using ho1, hb1⟩
      case round =>
        obtain ⟨q, hq, hor, hbr⟩ := hrel
        obtain ⟨A2, c2, hv2, hr2⟩ := hor.r8
        rw [show (l ++ List.replicate q (0 : UInt8)).length = l.length + q by simp] at hv2
        subst hv2
        have hsz := hbr.size
        by_cases hlt : q < p
        · have hlb := Lib.hid (show (l ++ List.replicate q (0 : UInt8)).length + 1 ≤ 140737488355328 by simp; omega)
          have hrow := Lib.hid (show (l ++ List.replicate q (0 : UInt8)) ++ [0] = l ++ List.replicate (q + 1) 0 by
            rw [List.append_assoc, ← List.replicate_succ'])
          have g3 : (((l.length : Int) + (q : Int)) % (k : Int) != 0) = true := by
            have := HP.out q hlt
            rw [imod, bne_iff_ne]
            omega
          go_wp2_with (at_builtin; with_reducible refine wpList_append8 rfl (.tmp 22) (.tmp 23) rfl rfl w.heap.size _ _ rfl (hor.alloc _) (wr.heap.size + 1) _ 1 1 [0] rfl (one_r8 _ _ _ rfl) hlb.out (le_alloc hsz _) ?_; intro v2 w2 ha2)
          have hb2 := ha2.below (hbr.alloc hsz _) (le_alloc hsz _) (hor.alloc _) (Nat.le_refl _)
          have ho2 := ha2.1
          rw [hrow.out] at ho2
          have hL := Lib.hid (show lenOf v2 = l.length + (q + 1) by
            obtain ⟨A3, c3, hv3, hr3⟩ := ho2.r8
            rw [hv3]; simp [lenOf])
          go_roundw
          case rel => exact ⟨q + 1, by omega, ho2, hb2⟩
          case measure => rw [hL.out]; simp [lenOf]; omega
        · obtain rfl : q = p := by omega
          have g3 : (((l.length : Int) + (q : Int)) % (k : Int) != 0) = false := by
            have := HE.out
            rw [imod, this]
            rfl
          go_wp2
          go_ret
          exact hor.out hbr
    · have hp : padN l.length t = 0 := by simp [padN]; omega
      rw [hp, List.replicate_zero, List.append_nil]
      have g1 : decide ((1 : Int) ≤ t) = true := by simp; omega
      have g2 : decide (t ≤ 64) = false := by simp; omega
      clear hp
      go_enter Try.func33, Try.ntmps33
      go_wp2_with (at_builtin; with_reducible refine wpList_append8 rfl (.tmp 6) (.tmp 7) rfl rfl w.heap.size _ [] rfl (Own8.empty _ _ (Nat.le_refl _)) w.heap.size A l.length c l rfl (h.alloc (Nat.le_refl _) _) hbb (by simp) ?_; intro v1 w1 ha1)
      have hb1 := ha1.below ((Below.refl _ _).alloc (Nat.le_refl _) _) (by simp) (Own8.empty _ _ (Nat.le_refl _)) (Nat.le_refl _)
      have ho1 := ha1.1
      clear ha1 h
      go_loopw [5] (fun v wr => v = v1 ∧ wr = w1) (fun _ _ => 0)
      case atStart => exact ⟨rfl, rfl⟩
      case round =>
        obtain ⟨rfl, rfl⟩ := hrel
        go_wp2
        go_ret
        exact ho1.out hb1
  · have hp : padN l.length t = 0 := by simp [padN]; omega
    rw [hp, List.replicate_zero, List.append_nil]
    have g1 : decide ((1 : Int) ≤ t) = false := by simp; omega
    clear hp
    go_enter Try.func33, Try.ntmps33
    go_wp2_with (at_builtin; with_reducible refine wpList_append8 rfl (.tmp 6) (.tmp 7) rfl rfl w.heap.size _ [] rfl (Own8.empty _ _ (Nat.le_refl _)) w.heap.size A l.length c l rfl (h.alloc (Nat.le_refl _) _) hbb (by simp) ?_; intro v1 w1 ha1)
    have hb1 := ha1.below ((Below.refl _ _).alloc (Nat.le_refl _) _) (by simp) (Own8.empty _ _ (Nat.le_refl _)) (Nat.le_refl _)
    have ho1 := ha1.1
    clear ha1 h
    go_loopw [5] (fun v wr => v = v1 ∧ wr = w1) (fun _ _ => 0)
    case atStart => exact ⟨rfl, rfl⟩
    case round =>
      obtain ⟨rfl, rfl⟩ := hrel
      go_wp2
      go_ret
      exact ho1.out hb1
section
variable (A : Option Addr) (n c : Nat) (l : List UInt8) (w : World)
theorem ref_pad_all (h : R8 w w.heap.size A n c l) (hn : n ≤ 140737488351232) (k : Int) :
    Calls Try.prog 33 #[.slice A n c, .int .i64 k] w (Out8 w (padL l k)) := by
  have hl := h.1
  subst hl
  exact ref_pad_any A _ c l w h hn k
end
end Go.Proofs.Ytpcdmcaojgpfoaa
