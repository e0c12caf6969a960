/- Contract: limelightbook.Within. Contract: limelightbook.Within, its number chosen ahead of the world. Contract: (*limelightkeep.Tape).Next. -/
import Derived.Test.YtfijlgkgbbemnaaBaz
import Derived.Test.YtfijlgkgbbemnaaNt
import Derived.BigQuiet
import Derived.Deep.QuietTactic
namespace Go.Proofs.Ytfijlgkgbbemnaa
open Go.RowKit
set_option linter.unusedVariables false
set_option linter.unusedSimpArgs false
set_option maxRecDepth 20000

/-- Within: some number of the range. -/
def InR (lo hi : Int) (w : World) (e : Ending) (w' : World) : Prop := ∃ r : Int, e = .returned (.int .i64 r) ∧ lo ≤ r ∧ r ≤ hi ∧ w = w'
theorem within_any (x lo hi : Int) (w : World) (hx : I64 x) (h0 : 0 ≤ lo) (h1 : lo ≤ hi) (h2 : hi ≤ 281474976710656) :
    Calls Try.prog 12 #[.int .i64 x, .int .i64 lo, .int .i64 hi] w (InR lo hi w) := by
  by_cases c1 : lo ≤ x ∧ x ≤ hi
  · obtain ⟨c1, c2⟩ := c1
    go_enter Try.func12, Try.ntmps12
    go_wp2
    go_ret
    exact ⟨x, rfl, c1, c2, rfl⟩
  · have m1 := Int.lt_tmod_of_pos x (show 0 < hi - lo + 1 by omega)
    have m2 := Int.tmod_lt_of_pos x (show 0 < hi - lo + 1 by omega)
    have m3 := Int.emod_nonneg x (show hi - lo + 1 ≠ 0 by omega)
    have m4 := Int.emod_lt_of_pos x (show 0 < hi - lo + 1 by omega)
    by_cases c2 : lo ≤ x
    all_goals
      go_enter Try.func12, Try.ntmps12
      go_wp2
    all_goals go_ret
    all_goals exact ⟨_, rfl, by omega, by omega, rfl⟩
end Go.Proofs.Ytfijlgkgbbemnaa
namespace Go.Proofs.Ytfijlgkgbbemnaa
open Go.RowKit
set_option linter.unusedVariables false
set_option linter.unusedSimpArgs false
set_option maxRecDepth 20000

theorem within_ex (x lo hi : Int) (hx : I64 x) (h0 : 0 ≤ lo) (h1 : lo ≤ hi) (h2 : hi ≤ 281474976710656) :
    ∃ r : Int, lo ≤ r ∧ r ≤ hi ∧ (lo ≤ x → x ≤ hi → r = x) ∧ ∀ w, Calls Try.prog 12 #[.int .i64 x, .int .i64 lo, .int .i64 hi] w fun e w' => e = .returned (.int .i64 r) ∧ w' = w := by
  by_cases c1 : lo ≤ x ∧ x ≤ hi
  · refine ⟨x, c1.1, c1.2, fun _ _ => rfl, fun w => ?_⟩
    obtain ⟨c1, c2⟩ := c1
    go_enter Try.func12, Try.ntmps12
    go_wp2
    go_ret
    exact ⟨rfl, rfl⟩
  · have m1 := Int.lt_tmod_of_pos x (show 0 < hi - lo + 1 by omega)
    have m2 := Int.tmod_lt_of_pos x (show 0 < hi - lo + 1 by omega)
    have m3 := Int.emod_nonneg x (show hi - lo + 1 ≠ 0 by omega)
    have m4 := Int.emod_lt_of_pos x (show 0 < hi - lo + 1 by omega)
    by_cases c2 : lo ≤ x
    · refine ⟨lo + x % (hi - lo + 1), by omega, by omega, fun a b => absurd ⟨a, b⟩ c1, fun w => ?_⟩
      go_enter Try.func12, Try.ntmps12
      go_wp2
      go_ret
      exact ⟨rfl, rfl⟩
    · by_cases c3 : x.tmod (hi - lo + 1) < 0
      · refine ⟨lo + (x.tmod (hi - lo + 1) + hi - lo + 1), by omega, by omega, fun a b => absurd ⟨a, b⟩ c1, fun w => ?_⟩
        go_enter Try.func12, Try.ntmps12
        go_wp2
        go_ret
        exact ⟨rfl, rfl⟩
      · refine ⟨lo + x.tmod (hi - lo + 1), by omega, by omega, fun a b => absurd ⟨a, b⟩ c1, fun w => ?_⟩
        go_enter Try.func12, Try.ntmps12
        go_wp2
        go_ret
        exact ⟨rfl, rfl⟩
end Go.Proofs.Ytfijlgkgbbemnaa
namespace Go.Proofs.Ytfijlgkgbbemnaa
open Go.RowKit
set_option linter.unusedVariables false
set_option linter.unusedSimpArgs false
set_option maxRecDepth 20000

/-- A number of 0 to n - 1 (0 if there is none). -/
def NextOut (g : Nat) (n : Int) (w : World) (e : Ending) (w' : World) : Prop := ∃ r : Int, e = .returned (.int .i64 r) ∧ 0 ≤ r ∧ (r < n ∨ r = 0) ∧ Moves g w w'
theorem next_any (g : Nat) (n : Int) (w : World) (hT : TapeAt w g) (hn : I64 n) :
    Calls Try.prog 20 #[.pointer (some ⟨g, 0, none⟩), .int .i64 n] w (NextOut g n w) := by
  have hT' := hT
  obtain ⟨A, N, c, k, hg, hk, hN, hr⟩ := hT
  have c0 : w.cell? ⟨g, 0, none⟩ = some (.slice A N c) := by simp [World.cell?, hg]
  have c1 : w.cell? ⟨g, 1, none⟩ = some (.int .i64 (k : Int)) := by simp [World.cell?, hg]
  have f1 : w.frozen? ⟨g, 1, none⟩ = false := by simp [World.frozen?, hg]
  go_enter Try.func20, Try.ntmps20
  by_cases h1 : N ≤ k
  · have g1 : decide ((N : Int) ≤ (k : Int)) = true := by simp; omega
    go_wp2_with fail
    go_quiet (fail)
    go_wp2_with fail
    go_ret
    exact ⟨0, rfl, by omega, .inr rfl, Moves.of hT' (below_drewN _ w nq)⟩
  have g1 : decide ((N : Int) ≤ (k : Int)) = false := by simp; omega
  by_cases h2 : n < 1
  · have g2 : decide (n < 1) = true := by simp; omega
    go_wp2_with fail
    go_quiet (fail)
    go_wp2_with fail
    go_ret
    exact ⟨0, rfl, by omega, .inr rfl, Moves.of hT' (below_drewN _ w nq)⟩
  have g2 : decide (n < 1) = false := by simp; omega
  obtain ⟨b, off, rfl, hb, hc⟩ := hr.2 (by omega)
  obtain ⟨x, hx, hcx⟩ := hc k (by omega)
  clear hc
  obtain ⟨r, hr0, hr1, _, hwi⟩ := within_ex x 0 1073741824 hx (by omega) (by omega) (by omega)
  go_wp2_with fail
  go_quiet (fail)
  go_wp2_with fail
  have d0 : ((w.drewN nq).setCell ⟨g, 1, none⟩ (.int .i64 ((k : Int) + 1))).cell? ⟨g, 0, none⟩ = some (.slice (some ⟨b, off, none⟩) N c) := by
    rw [World.cell?_setCell_other _ _ _ _ (by simp)]
    exact c0
  have d1 : ((w.drewN nq).setCell ⟨g, 1, none⟩ (.int .i64 ((k : Int) + 1))).cell? ⟨g, 1, none⟩ = some (.int .i64 ((k : Int) + 1)) :=
    World.cell?_setCell_same _ _ _ (show (w.drewN nq).cell? ⟨g, 1, none⟩ = _ from c1)
  have d2 : ((w.drewN nq).setCell ⟨g, 1, none⟩ (.int .i64 ((k : Int) + 1))).cell? ⟨b, off + k, none⟩ = some (.int .i64 x) := by
    rw [World.cell?_setCell_other _ _ _ _ (by intro e; have := congrArg Addr.block e; simp at this; omega)]
    exact hcx
  have hm : Moves g w ((w.drewN nq).setCell ⟨g, 1, none⟩ (.int .i64 ((k : Int) + 1))) := by
    refine ⟨Below.setCell (below_drewN g w nq) (p := ⟨g, 1, none⟩) (Nat.le_refl _) _, fun j hj hne => Below.heap_setCell _ _ _ _ hne, ?_⟩
    refine ⟨some ⟨b, off, none⟩, N, c, k + 1, ?_, by omega, hN, hr.keep (Below.setCell (below_drewN g w nq) (p := ⟨g, 1, none⟩) (Nat.le_refl _) _)⟩
    exact Blk.set_ (w := w.drewN nq) (g := g) hg 1 (.int .i64 ((k : Int) + 1))
  revert d0 d1 d2 hm
  generalize (w.drewN nq).setCell ⟨g, 1, none⟩ (.int .i64 ((k : Int) + 1)) = W
  intro d0 d1 d2 hm
  clear c0 c1 f1 hcx hg hT'
  go_quiet ((go_at_call 12; refine Calls.quiet_of_same (hwi _)))
  go_wp2_with fail
  go_ret
  refine ⟨_, rfl, Int.emod_nonneg _ (by omega), .inl (Int.emod_lt_of_pos _ (by omega)), hm.trans (Moves.of hm.tape (below_drewN _ W _))⟩
end Go.Proofs.Ytfijlgkgbbemnaa
