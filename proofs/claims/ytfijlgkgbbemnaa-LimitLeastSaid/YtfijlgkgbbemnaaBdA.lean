/- limelightref13's hold and all. -/
import Derived.Test.YtfijlgkgbbemnaaBdM
namespace Go.Proofs.Ytfijlgkgbbemnaa
open Go.RowKit
set_option linter.unusedVariables false
set_option linter.unusedSimpArgs false
set_option maxRecDepth 20000

theorem ref_hold (t : Tup) (ht : t.In) (w : World) : Calls Try.prog 48 #[t.val] w (AnsB (unT (holdT t)).val w) := by
  obtain ⟨o, r, v⟩ := t
  obtain ⟨h1, h2, h3⟩ := ht
  simp only at h1 h2 h3
  obtain ⟨R, hR⟩ : ∃ R, R = min r 1099511627776 := ⟨_, rfl⟩
  obtain ⟨V, hV⟩ : ∃ V, V = min v.toNat 511 := ⟨_, rfl⟩
  have e : (unT (holdT ⟨o, r, v⟩)).val = .agg #[.int .u32 (o : Int), .int .u64 (R : Int), .int .i64 (V : Int)] := by rw [hR, hV]; rfl
  rw [e]
  clear e
  have bb := ((Below.refl w.heap.size w).alloc (Nat.le_refl _) (.cells #[.int .u32 (o : Int), .int .u64 (R : Int), .int .i64 (V : Int)] 31)).alloc (by simp) (.cells #[.int .u32 (o : Int), .int .u64 (R : Int), .int .i64 (V : Int)] 31)
  have HB := Lib.hid bb
  clear bb
  unfold I64 at h3
  have hv : (v < 0 ∧ V = 0) ∨ (0 ≤ v ∧ v ≤ 511 ∧ v = (V : Int)) ∨ (511 < v ∧ V = 511) := by omega
  have hr : (r ≤ 1099511627776 ∧ r = R) ∨ (1099511627776 < r ∧ R = 1099511627776) := by omega
  clear hR hV
  rcases hr with ⟨hr, rfl⟩ | ⟨hr, rfl⟩
  all_goals rcases hv with ⟨hv, rfl⟩ | ⟨hv, hv2, rfl⟩ | ⟨hv, rfl⟩
  · have z1 : (r : Int) ≤ 1099511627776 := by omega
    have z2 : ¬ (1099511627776 : Int) < (r : Int) := by omega
    have z3 : v ≤ 511 := by omega
    have z4 : ¬ 0 ≤ v := by omega
    have z5 : v ≤ 0 := by omega
    go_enter Try.func48, Try.ntmps48
    go_wp2_with fail
    refine bodyPost_ret (by simp [results, Try.results48, go_sem]; try rfl) rfl ?_
    exact ⟨rfl, HB.out⟩
  · have z1 : (r : Int) ≤ 1099511627776 := by omega
    have z2 : ¬ (1099511627776 : Int) < (r : Int) := by omega
    have z3 : (V : Int) ≤ 511 := by omega
    have z4 : (0 : Int) ≤ (V : Int) := by omega
    go_enter Try.func48, Try.ntmps48
    go_wp2_with fail
    refine bodyPost_ret (by simp [results, Try.results48, go_sem]; try rfl) rfl ?_
    exact ⟨rfl, HB.out⟩
  · have z1 : (r : Int) ≤ 1099511627776 := by omega
    have z2 : ¬ (1099511627776 : Int) < (r : Int) := by omega
    have z3 : ¬ v ≤ 511 := by omega
    go_enter Try.func48, Try.ntmps48
    go_wp2_with fail
    refine bodyPost_ret (by simp [results, Try.results48, go_sem]; try rfl) rfl ?_
    exact ⟨rfl, HB.out⟩
  · have z1 : ¬ (r : Int) ≤ 1099511627776 := by omega
    have z2 : (1099511627776 : Int) < (r : Int) := by omega
    have z3 : v ≤ 511 := by omega
    have z4 : ¬ 0 ≤ v := by omega
    have z5 : v ≤ 0 := by omega
    go_enter Try.func48, Try.ntmps48
    go_wp2_with fail
    refine bodyPost_ret (by simp [results, Try.results48, go_sem]; try rfl) rfl ?_
    exact ⟨rfl, HB.out⟩
  · have z1 : ¬ (r : Int) ≤ 1099511627776 := by omega
    have z2 : (1099511627776 : Int) < (r : Int) := by omega
    have z3 : (V : Int) ≤ 511 := by omega
    have z4 : (0 : Int) ≤ (V : Int) := by omega
    go_enter Try.func48, Try.ntmps48
    go_wp2_with fail
    refine bodyPost_ret (by simp [results, Try.results48, go_sem]; try rfl) rfl ?_
    exact ⟨rfl, HB.out⟩
  · have z1 : ¬ (r : Int) ≤ 1099511627776 := by omega
    have z2 : (1099511627776 : Int) < (r : Int) := by omega
    have z3 : ¬ v ≤ 511 := by omega
    go_enter Try.func48, Try.ntmps48
    go_wp2_with fail
    refine bodyPost_ret (by simp [results, Try.results48, go_sem]; try rfl) rfl ?_
    exact ⟨rfl, HB.out⟩
end Go.Proofs.Ytfijlgkgbbemnaa
