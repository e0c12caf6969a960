/- Law 9's helpers: known, same; ClockTells' walk. -/
import Derived.Test.YtjlafpnlkdbkfaaCkC
namespace Go.Proofs.Ytjlafpnlkdbkfaa
open Go.RowKit
set_option linter.unusedVariables false
set_option linter.unusedSimpArgs false
set_option maxRecDepth 20000

theorem i64_bits (op : BinOp) (a b : Int) : I64 (bits op .i64 a b) := by
  have h : ∀ m : Int, I64 (IntKind.i64.wrap m) := by
    intro m
    have := IntKind.wrap_i64 m
    unfold I64
    omega
  exact h _
theorem known9_any (w : World) : Calls Try.prog 8 #[] w (Sti (.bool true) w) := by
  have a1 : ∀ W, Calls Try.prog 10 #[.int .i64 9223372036854775807, .int .i64 5] W (Sti (.int .i64 9223372036854775807) W) := fun W => by
    have h := clock_add 9223372036854775807 5 (by unfold I64; omega) (by unfold I64; omega) W
    rw [show addC 9223372036854775807 5 = 9223372036854775807 by decide] at h
    exact h
  have a2 : ∀ W, Calls Try.prog 9 #[.int .i64 7, .int .i64 2] W (Sti (.int .i64 4) W) := fun W => by
    have h := clock_over 7 2 (by unfold I64; omega) (by unfold I64; omega) W
    rw [show overC 7 2 = 4 by decide] at h
    exact h
  have a3 : ∀ W, Calls Try.prog 12 #[.int .i64 4611686018427387904, .int .i64 4, .int .i64 4611686018427387904, .int .i64 5] W (Sti (.bool true) W) := fun W => by
    have h := clock_less 4611686018427387904 4 4611686018427387904 5 (by unfold I64; omega) (by unfold I64; omega) (by unfold I64; omega) (by unfold I64; omega) W
    rw [show lessC 4611686018427387904 4 4611686018427387904 5 = true by decide] at h
    exact h
  have a4 : ∀ W, Calls Try.prog 12 #[.int .i64 4611686018427387904, .int .i64 5, .int .i64 4611686018427387904, .int .i64 5] W (Sti (.bool false) W) := fun W => by
    have h := clock_less 4611686018427387904 5 4611686018427387904 5 (by unfold I64; omega) (by unfold I64; omega) (by unfold I64; omega) (by unfold I64; omega) W
    rw [show lessC 4611686018427387904 5 4611686018427387904 5 = false by decide] at h
    exact h
  have a5 : ∀ W, Calls Try.prog 11 #[.int .i64 1099511627776, .int .i64 1099511627776] W (Sti (.int .i64 9223372036854775807) W) := fun W => by
    have h := clock_mul 1099511627776 1099511627776 (by unfold I64; omega) (by unfold I64; omega) W
    rw [show mulC 1099511627776 1099511627776 = 9223372036854775807 by decide] at h
    exact h
  have a6 : ∀ W, Calls Try.prog 10 #[.int .i64 (-5), .int .i64 3] W (Sti (.int .i64 3) W) := fun W => by
    have h := clock_add (-5) 3 (by unfold I64; omega) (by unfold I64; omega) W
    rw [show addC (-5) 3 = 3 by decide] at h
    exact h
  have a7 : ∀ W, Calls Try.prog 9 #[.int .i64 5, .int .i64 0] W (Sti (.int .i64 0) W) := fun W => by
    have h := clock_over 5 0 (by unfold I64; omega) (by unfold I64; omega) W
    rw [show overC 5 0 = 0 by decide] at h
    exact h
  have a8 : ∀ W, Calls Try.prog 11 #[.int .i64 (-1), .int .i64 9] W (Sti (.int .i64 0) W) := fun W => by
    have h := clock_mul (-1) 9 (by unfold I64; omega) (by unfold I64; omega) W
    rw [show mulC (-1) 9 = 0 by decide] at h
    exact h
  have a9 : ∀ W, Calls Try.prog 11 #[.int .i64 3, .int .i64 4] W (Sti (.int .i64 12) W) := fun W => by
    have h := clock_mul 3 4 (by unfold I64; omega) (by unfold I64; omega) W
    rw [show mulC 3 4 = 12 by decide] at h
    exact h
  go_enter Try.func8, Try.ntmps8
  go_wp2_with fail
  with_reducible refine (a1 _).mono ?_
  rintro e w' ⟨rfl, rfl⟩
  clear a1
  go_wp2_with fail
  with_reducible refine (a2 _).mono ?_
  rintro e w' ⟨rfl, rfl⟩
  clear a2
  go_wp2_with fail
  with_reducible refine (a3 _).mono ?_
  rintro e w' ⟨rfl, rfl⟩
  clear a3
  go_wp2_with fail
  with_reducible refine (a4 _).mono ?_
  rintro e w' ⟨rfl, rfl⟩
  clear a4
  go_wp2_with fail
  with_reducible refine (a5 _).mono ?_
  rintro e w' ⟨rfl, rfl⟩
  clear a5
  go_wp2_with fail
  with_reducible refine (a6 _).mono ?_
  rintro e w' ⟨rfl, rfl⟩
  clear a6
  go_wp2_with fail
  with_reducible refine (a7 _).mono ?_
  rintro e w' ⟨rfl, rfl⟩
  clear a7
  go_wp2_with fail
  with_reducible refine (a8 _).mono ?_
  rintro e w' ⟨rfl, rfl⟩
  clear a8
  go_wp2_with fail
  with_reducible refine (a9 _).mono ?_
  rintro e w' ⟨rfl, rfl⟩
  clear a9
  go_wp2_with fail
  go_ret
  exact ⟨rfl, rfl⟩
theorem same9_any (a b c d : Int) (ha : I64 a) (hb : I64 b) (hc : I64 c) (hd : I64 d) (w : World) : Calls Try.prog 7 #[.int .i64 a, .int .i64 b, .int .i64 c, .int .i64 d] w (Sti (.bool true) w) := by
  have a1 := fun W => clock_add a b ha hb W
  have a2 := fun W => ref_add a b ha hb W
  have a3 := fun W => clock_mul a b ha hb W
  have a4 := fun W => ref_mul a b ha hb W
  have a5 := fun W => clock_over a b ha hb W
  have a6 := fun W => ref_over a b ha hb W
  have a7 := fun W => clock_less a b c d ha hb hc hd W
  have a8 := fun W => ref_less a b c d ha hb hc hd W
  clear ha hb hc hd
  generalize addC a b = E1 at *
  generalize mulC a b = E2 at *
  generalize overC a b = E3 at *
  generalize lessC a b c d = E4 at *
  go_enter Try.func7, Try.ntmps7
  go_wp2_with fail
  with_reducible refine (a1 _).mono ?_
  rintro e w' ⟨rfl, rfl⟩
  clear a1
  go_wp2_with fail
  with_reducible refine (a2 _).mono ?_
  rintro e w' ⟨rfl, rfl⟩
  clear a2
  go_wp2_with fail
  with_reducible refine (a3 _).mono ?_
  rintro e w' ⟨rfl, rfl⟩
  clear a3
  go_wp2_with fail
  with_reducible refine (a4 _).mono ?_
  rintro e w' ⟨rfl, rfl⟩
  clear a4
  go_wp2_with fail
  with_reducible refine (a5 _).mono ?_
  rintro e w' ⟨rfl, rfl⟩
  clear a5
  go_wp2_with fail
  with_reducible refine (a6 _).mono ?_
  rintro e w' ⟨rfl, rfl⟩
  clear a6
  go_wp2_with fail
  with_reducible refine (a7 _).mono ?_
  rintro e w' ⟨rfl, rfl⟩
  clear a7
  go_wp2_with fail
  with_reducible refine (a8 _).mono ?_
  rintro e w' ⟨rfl, rfl⟩
  clear a8
  go_wp2_with fail
  go_ret
  exact ⟨rfl, rfl⟩
theorem shr_in {a : Int} (h : I64 a) : I64 (a / 1048576) := by unfold I64 at *; omega
theorem clockTells_walk (a b c d : Int) (w : World) (ha : I64 a) (hb : I64 b) (hc : I64 c) (hd : I64 d) :
    Calls Try.prog 4 #[.int .i64 a, .int .i64 b, .int .i64 c, .int .i64 d] w (Yes w) := by
  go_enter Try.func4, Try.ntmps4
  go_wp2_with fail
  with_reducible refine (same9_any _ _ _ _ ha hb hc hd _).mono ?_
  rintro e w' ⟨rfl, rfl⟩
  go_wp2_with fail
  with_reducible refine (same9_any _ _ _ _ ha (i64_bits _ _ _) hc (i64_bits _ _ _) _).mono ?_
  rintro e w' ⟨rfl, rfl⟩
  go_wp2_with fail
  with_reducible refine (same9_any _ _ _ _ (i64_bits _ _ _) (i64_bits _ _ _) (i64_bits _ _ _) (i64_bits _ _ _) _).mono ?_
  rintro e w' ⟨rfl, rfl⟩
  go_wp2_with fail
  with_reducible refine (same9_any _ _ _ _ ha hb hb ha _).mono ?_
  rintro e w' ⟨rfl, rfl⟩
  go_wp2_with fail
  with_reducible refine (same9_any _ _ _ _ (shr_in ha) hb ha (shr_in hb) _).mono ?_
  rintro e w' ⟨rfl, rfl⟩
  go_wp2_with fail
  with_reducible refine (known9_any _).mono ?_
  rintro e w' ⟨rfl, rfl⟩
  go_wp2_with fail
  go_ret
  exact ⟨rfl, Below.refl _ _⟩
end Go.Proofs.Ytjlafpnlkdbkfaa
