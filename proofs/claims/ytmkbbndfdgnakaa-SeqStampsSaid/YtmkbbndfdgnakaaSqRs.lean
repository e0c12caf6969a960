/- limelightref15's Stamp. -/
import Derived.Test.YtmkbbndfdgnakaaSqP
import Derived.Test.YtmkbbndfdgnakaaDr
import Derived.StillTailTactics
import Derived.StillTactics
import Derived.Deep.CutRange
namespace Go.Proofs.Ytmkbbndfdgnakaa
open Go.RowKit
set_option linter.unusedVariables false
set_option linter.unusedSimpArgs false
set_option maxRecDepth 20000

set_option maxHeartbeats 2000000 in
theorem ref_next32 (last : Int) (n : Nat) (hl : I64 last) (hn : n < 4294967296) (w : World) : Calls Try.prog 23 #[.int .i64 last, .int .i64 (n : Int), .int .i64 4294967296] w fun e w' => e = .returned (.int .i64 (ext32 last n)) ∧ w = w' := by
  unfold I64 at hl
  obtain ⟨h1, h2⟩ := hl
  by_cases h0 : last < 0
  · have e : ext32 last n = (n : Int) := by unfold ext32 nextI; rw [if_pos h0]
    rw [e]
    clear e
    go_enter Try.func23, Try.ntmps23
    go_wp2
    go_ret
    exact ⟨rfl, rfl⟩
  · obtain ⟨r, hr⟩ : ∃ r, r = last % 4294967296 := ⟨_, rfl⟩
    have ht : last.tmod 4294967296 = r := by rw [hr, Int.tmod_eq_emod_of_nonneg (by omega)]
    obtain ⟨x, hx⟩ : ∃ x, x = last - r + (n : Int) := ⟨_, rfl⟩
    have hr1 : 0 ≤ r := by omega
    have hr2 : r < 4294967296 := by omega
    have hr3 : r ≤ last := by omega
    have hx1 : 0 ≤ x := by omega
    have hx2 : x ≤ 9223372036854775807 := by omega
    have hx3 : x - last < 4294967296 := by omega
    have hx4 : last - x < 4294967296 := by omega
    have e : ext32 last n = (if 2147483648 ≤ last - x then (if 9223372036854775807 - 4294967296 < x then x else backI last (x + 4294967296) 4294967296) else backI last x 4294967296) := by
      unfold ext32 nextI
      rw [if_neg h0, ← hr, ← hx]
      rfl
    rw [e]
    have y1 : IntKind.i64.wrap (last - r + (n : Int)) = x := by rw [← hx, IntKind.wrap_i64]; omega
    clear e hr hx
    unfold backI
    go_enter Try.func23, Try.ntmps23
    go_wp2
    all_goals (go_ret; exact ⟨rfl, rfl⟩)
theorem ref_stamp (last : Int) (n : Nat) (hl : I64 last) (hn : n < 4294967296) (w : World) : Calls Try.prog 18 #[.int .i64 last, .int .u32 (n : Int)] w fun e w' => e = .returned (.int .i64 (ext32 last n)) ∧ w = w' := by
  have h := ref_next32 last n hl hn
  generalize ext32 last n = x at h ⊢
  clear hl
  go_enter Try.func18, Try.ntmps18
  go_wp2_with fail
  refine (h _).mono ?_
  rintro e w' ⟨rfl, rfl⟩
  go_wp2
  go_ret
  exact ⟨rfl, rfl⟩
end Go.Proofs.Ytmkbbndfdgnakaa
