/- Law 14's helper: known. -/
import Derived.Test.YtfijlgkgbbemnaaLmX
namespace Go.Proofs.Ytfijlgkgbbemnaa
open Go.RowKit
set_option linter.unusedVariables false
set_option linter.unusedSimpArgs false
set_option maxRecDepth 20000

theorem rb_none : ∀ r, (none : Option Nat) = some r → r ≤ 1099511627776 := fun r h => by cases h
theorem rb_some {n : Nat} (hn : n ≤ 1099511627776) : ∀ r, some n = some r → r ≤ 1099511627776 := fun r h => by injection h with h; omega
theorem btR_le (n : Nat) : btR n ≤ 1099511627776 := Nat.min_le_right _ _
def kE : Ents := [⟨⟨3, 16, 1⟩, 1000000⟩]
theorem k_put : putE [] ⟨⟨3, 16, 1⟩, untilE 0⟩ = kE := by simp [putE, hereE, posE, kE, untilE, addC, po]
theorem k_lim : limV 5000 (some (btR 80)) kE = 2 := by decide
theorem k_t1 : tickE kE 999999 = kE := by simp [tickE, kE]
theorem k_t2 : tickE kE 1000000 = [] := by simp [tickE, kE]
set_option maxHeartbeats 4000000 in
theorem known14_any (w : World) : Calls Try.prog 11 #[] w (Yes w) := by
  have IC := Lib.hid (fun (k : Int) (h1 : -100000000 ≤ k) (h2 : k ≤ 100000000) => (by unfold I64; omega : I64 k))
  have hin : (⟨3, 16, 1⟩ : Tup).In := ⟨by decide, by decide, by unfold I64; decide⟩
  go_enter Try.func11, Try.ntmps11
  go_wp2_with fail
  ((with_reducible refine (lm_new_at 5000 (IC.out _ (by omega) (by omega)) _ (c := 5000) rfl).mono ?_); rintro e w1 ⟨G, S, rfl, h1⟩)
  have H1 := Lib.hid h1
  clear h1
  go_wp2_with fail
  ((with_reducible refine (lm_rate_at H1.out (by omega) rb_none (n := 5000) rfl).mono ?_); rintro e w2 ⟨rfl, h2⟩)
  have H2 := Lib.hid h2
  clear h2
  go_wp2_with fail
  ((with_reducible refine (lm_remb_at H2.out (r := 80) (R := 80) (by omega) rfl).mono ?_); rintro e w3 ⟨rfl, S3, h3⟩)
  have H3 := Lib.hid h3
  clear h3
  go_wp2_with fail
  ((with_reducible refine (lm_rate_at H3.out (by omega) (rb_some (btR_le 80)) (n := 10) rfl).mono ?_); rintro e w4 ⟨rfl, h4⟩)
  have H4 := Lib.hid h4
  clear h4
  go_wp2_with fail
  ((with_reducible refine (lm_tmmbr_at H4.out (o := 3) (r := 16) (O := 3) (R := 16) (b := true) hin (IC.out 0 (by omega) (by omega)) rfl rfl k_put rfl).mono ?_); rintro e w5 ⟨rfl, S5, h5⟩)
  have H5 := Lib.hid h5
  clear h5
  go_wp2_with fail
  ((with_reducible refine (lm_rate_at H5.out (by omega) (rb_some (btR_le 80)) (n := 2) (by simp [k_lim])).mono ?_); rintro e w6 ⟨rfl, h6⟩)
  have H6 := Lib.hid h6
  clear h6
  go_wp2_with fail
  ((with_reducible refine (lm_tick_at H6.out (n := 0) (IC.out 999999 (by omega) (by omega)) k_t1 (by rw [k_t1]; simp)).mono ?_); rintro e w7 ⟨rfl, S7, h7⟩)
  have H7 := Lib.hid h7
  clear h7
  go_wp2_with fail
  ((with_reducible refine (lm_tick_at H7.out (n := 1) (IC.out 1000000 (by omega) (by omega)) k_t2 (by rw [k_t2]; simp [kE])).mono ?_); rintro e w8 ⟨rfl, S8, h8⟩)
  have H8 := Lib.hid h8
  clear h8
  go_wp2_with fail
  ((with_reducible refine (lm_rate_at H8.out (by omega) (rb_some (btR_le 80)) (n := 10) rfl).mono ?_); rintro e w9 ⟨rfl, h9⟩)
  have H9 := Lib.hid h9
  clear h9
  go_wp2_with fail
  ((with_reducible refine (lm_tuples H9.out.lm H9.out.ok H9.out.so).mono ?_); rintro e w10 ⟨v10, rfl, o10, b10⟩)
  obtain ⟨A10, c10, rfl, _⟩ := o10.rt (fun x hx => by cases hx)
  have H10 := Lib.hid (H9.out.on b10)
  clear o10 b10
  go_wp2_with fail
  ((with_reducible refine (lm_set H10.out.lm H10.out.ok H10.out.so).mono ?_); rintro e w11 ⟨v11, R, rfl, hR, o11, b11⟩)
  have hR0 : R = [] := by
    rcases hR with h | ⟨a, ha, _⟩
    · exact h.2
    · exact absurd ha.1 (by simp [heldR, Ents.T])
  subst hR0
  obtain ⟨A11, c11, rfl, _⟩ := o11.rt (fun x hx => by cases hx)
  have H11 := Lib.hid (H10.out.below.trans (b11.mono H10.out.below.size))
  clear o11 b11 hR
  go_wp2_with fail
  go_ret
  exact ⟨rfl, H11.out⟩
end Go.Proofs.Ytfijlgkgbbemnaa
