/- Contracts of the project's bound: held, lets, ahead, lower. -/
import Derived.Test.YtlbndhbfmjefeaaBdB
import Derived.BigQuiet
import Derived.Deep.QuietTactic
namespace Go.Proofs.Ytlbndhbfmjefeaa
open Go.RowKit
set_option linter.unusedVariables false
set_option linter.unusedSimpArgs false
set_option maxRecDepth 20000

@[reducible] def Ln.val (a : Ln) : Value := .agg #[.int .u32 (a.o : Int), .int .u64 (a.r : Int), .int .i64 (a.v : Int)]
/-- a comes ahead of b where they are as good. -/
def aheadL (a b : Ln) : Prop := b.v < a.v ∨ a.v = b.v ∧ a.o < b.o
instance (a b : Ln) : Decidable (aheadL a b) := by unfold aheadL; infer_instance
instance (a b : Ln) : Decidable (fstL a b) := by unfold fstL; infer_instance
instance (at_ a b : Ln) : Decidable (betterL at_ a b) := by unfold betterL; infer_instance
instance (a b : Ln) : Decidable (above a b) := by unfold above; infer_instance

theorem bd_held (t : Tup) (ht : t.In) (w : World) : Calls Try.prog 24 #[t.val] w (AnsB (holdT t).val w) := by
  obtain ⟨o, r, v⟩ := t
  obtain ⟨h1, h2, h3⟩ := ht
  simp only at h1 h2 h3
  obtain ⟨R, hR⟩ : ∃ R, R = min r 1099511627776 := ⟨_, rfl⟩
  obtain ⟨V, hV⟩ : ∃ V, V = min v.toNat 511 := ⟨_, rfl⟩
  have e : (holdT ⟨o, r, v⟩).val = .agg #[.int .u32 (o : Int), .int .u64 (R : Int), .int .i64 (V : Int)] := by rw [hR, hV]; rfl
  rw [e]
  clear e
  have bb := ((Below.refl w.heap.size w).alloc (Nat.le_refl _) (.cells #[.int .u32 (o : Int), .int .u64 (R : Int), .int .i64 (V : Int)] 30)).alloc (by simp) (.cells #[.int .u32 (o : Int), .int .u64 (R : Int), .int .i64 (V : Int)] 30)
  have HB := Lib.hid bb
  clear bb
  unfold I64 at h3
  have hv : (v ≤ 0 ∧ V = 0) ∨ (0 < v ∧ v ≤ 511 ∧ v = (V : Int)) ∨ (511 < v ∧ V = 511) := by omega
  have hr : (r ≤ 1099511627776 ∧ r = R) ∨ (1099511627776 < r ∧ R = 1099511627776) := by omega
  clear hR hV
  rcases hr with ⟨hr, rfl⟩ | ⟨hr, rfl⟩
  all_goals rcases hv with ⟨hv, rfl⟩ | ⟨hv, hv2, rfl⟩ | ⟨hv, rfl⟩
  · have z1 : (r : Int) ≤ 1099511627776 := by omega
    have z2 : ¬ (1099511627776 : Int) < (r : Int) := by omega
    have z3 : v ≤ 511 := by omega
    have z4 : ¬ 0 < v := by omega
    have z5 : v ≤ 0 := by omega
    go_enter Try.func24, Try.ntmps24
    go_wp2_with fail
    refine bodyPost_ret (by simp [results, Try.results24, go_sem]; try rfl) rfl ?_
    exact ⟨rfl, HB.out⟩
  · have z1 : (r : Int) ≤ 1099511627776 := by omega
    have z2 : ¬ (1099511627776 : Int) < (r : Int) := by omega
    have z3 : (V : Int) ≤ 511 := by omega
    have z4 : (0 : Int) < (V : Int) := by omega
    have z5 : 0 < V := by omega
    go_enter Try.func24, Try.ntmps24
    go_wp2_with fail
    refine bodyPost_ret (by simp [results, Try.results24, go_sem]; try rfl) rfl ?_
    exact ⟨rfl, HB.out⟩
  · have z1 : (r : Int) ≤ 1099511627776 := by omega
    have z2 : ¬ (1099511627776 : Int) < (r : Int) := by omega
    have z3 : ¬ v ≤ 511 := by omega
    go_enter Try.func24, Try.ntmps24
    go_wp2_with fail
    refine bodyPost_ret (by simp [results, Try.results24, go_sem]; try rfl) rfl ?_
    exact ⟨rfl, HB.out⟩
  · have z1 : ¬ (r : Int) ≤ 1099511627776 := by omega
    have z2 : (1099511627776 : Int) < (r : Int) := by omega
    have z3 : v ≤ 511 := by omega
    have z4 : ¬ 0 < v := by omega
    have z5 : v ≤ 0 := by omega
    go_enter Try.func24, Try.ntmps24
    go_wp2_with fail
    refine bodyPost_ret (by simp [results, Try.results24, go_sem]; try rfl) rfl ?_
    exact ⟨rfl, HB.out⟩
  · have z1 : ¬ (r : Int) ≤ 1099511627776 := by omega
    have z2 : (1099511627776 : Int) < (r : Int) := by omega
    have z3 : (V : Int) ≤ 511 := by omega
    have z4 : (0 : Int) < (V : Int) := by omega
    have z5 : 0 < V := by omega
    go_enter Try.func24, Try.ntmps24
    go_wp2_with fail
    refine bodyPost_ret (by simp [results, Try.results24, go_sem]; try rfl) rfl ?_
    exact ⟨rfl, HB.out⟩
  · have z1 : ¬ (r : Int) ≤ 1099511627776 := by omega
    have z2 : (1099511627776 : Int) < (r : Int) := by omega
    have z3 : ¬ v ≤ 511 := by omega
    go_enter Try.func24, Try.ntmps24
    go_wp2_with fail
    refine bodyPost_ret (by simp [results, Try.results24, go_sem]; try rfl) rfl ?_
    exact ⟨rfl, HB.out⟩
theorem bd_lets (a : Ln) (ha : a.In) (x : Nat) (hx : x ≤ 4294967296) (w : World) : Calls Try.prog 23 #[a.val, .int .u64 (x : Int)] w (AnsB (.int .u64 ((letL (8 * x) a : Nat) : Int)) w) := by
  obtain ⟨ao, ar, av⟩ := a
  obtain ⟨h1, h2, h3⟩ := ha
  simp only at h1 h2 h3
  have HB := Lib.hid (belowA w (.cells #[.int .u32 (ao : Int), .int .u64 (ar : Int), .int .i64 (av : Int)] 30))
  have HS : Hid (letL (8 * x) ⟨ao, ar, av⟩ = ar - av * (8 * x)) := Lib.hid rfl
  generalize letL (8 * x) ⟨ao, ar, av⟩ = E at *
  have y1 : av * (8 * x) ≤ 511 * (8 * 4294967296) := Nat.mul_le_mul h3 (by omega)
  have y0 : IntKind.u64.wrap (av : Int) = (av : Int) := by rw [IntKind.wrap_u64]; omega
  have y2 : IntKind.u64.wrap (8 * (av : Int)) = ((8 * av : Nat) : Int) := by rw [IntKind.wrap_u64]; omega
  have y3 : IntKind.u64.wrap (((8 * av : Nat) : Int) * (x : Int)) = ((av * (8 * x) : Nat) : Int) := by
    rw [show ((8 * av : Nat) : Int) * (x : Int) = ((av * (8 * x) : Nat) : Int) by push_cast; rw [Int.mul_comm 8 (av : Int), Int.mul_assoc], IntKind.wrap_u64]
    omega
  obtain ⟨L8, hL8⟩ : ∃ L8, L8 = 8 * av := ⟨_, rfl⟩
  obtain ⟨L, hL⟩ : ∃ L, L = av * (8 * x) := ⟨_, rfl⟩
  rw [← hL8] at y2 y3
  rw [← hL] at y3 y1 HS
  clear hL8 hL h1 h3 hx
  by_cases hLt : ar ≤ L
  · have k1 : (ar : Int) ≤ (L : Int) := by omega
    have k3 : IntKind.u64.wrap ((ar : Int) - (ar : Int)) = ((0 : Nat) : Int) := by rw [IntKind.wrap_u64]; omega
    have HE : E = 0 := by rw [HS.out]; omega
    subst HE
    clear y1
    go_enter Try.func23, Try.ntmps23
    go_wp2_with fail
    go_ret
    exact ⟨rfl, HB.out⟩
  · have k1 : ¬ (ar : Int) ≤ (L : Int) := by omega
    have k2 : (L : Int) < (ar : Int) := by omega
    have k3 : IntKind.u64.wrap ((ar : Int) - (L : Int)) = (E : Int) := by rw [HS.out, IntKind.wrap_u64]; omega
    clear y1 HS
    go_enter Try.func23, Try.ntmps23
    go_wp2_with fail
    go_ret
    exact ⟨rfl, HB.out⟩
theorem two_box (w : World) (a b : Ln) : Below w.heap.size w ((w.alloc (.cells #[.int .u32 (a.o : Int), .int .u64 (a.r : Int), .int .i64 (a.v : Int)] 30)).alloc (.cells #[.int .u32 (b.o : Int), .int .u64 (b.r : Int), .int .i64 (b.v : Int)] 30)) :=
  ((Below.refl w.heap.size w).alloc (Nat.le_refl _) _).alloc (by simp) _
theorem bd_ahead (a b : Ln) (w : World) : Calls Try.prog 37 #[a.val, b.val] w (AnsB (.bool (decide (aheadL a b))) w) := by
  have HB := Lib.hid (two_box w a b)
  have HD : Hid (decide (aheadL a b) = decide (b.v < a.v ∨ a.v = b.v ∧ a.o < b.o)) := Lib.hid rfl
  obtain ⟨ao, ar, av⟩ := a
  obtain ⟨bo, br, bw⟩ := b
  generalize decide (aheadL ⟨ao, ar, av⟩ ⟨bo, br, bw⟩) = E at HD ⊢
  simp only at HB
  replace HD : Hid (E = decide (bw < av ∨ av = bw ∧ ao < bo)) := Lib.hid HD.out
  by_cases hv : av = bw
  · have t1 : ((av : Int) == (bw : Int)) = true := by rw [beq_iff_eq]; omega
    have HE : E = decide ((ao : Int) < (bo : Int)) := by
      rw [HD.out]
      apply decide_eq_decide.2
      omega
    subst HE
    clear hv
    go_enter Try.func37, Try.ntmps37
    go_wp2_with fail
    go_ret
    exact ⟨by simp, HB.out⟩
  · have t1 : ((av : Int) == (bw : Int)) = false := by rw [beq_eq_false_iff_ne]; omega
    have HE : E = decide ((bw : Int) < (av : Int)) := by
      rw [HD.out]
      apply decide_eq_decide.2
      omega
    subst HE
    clear hv
    go_enter Try.func37, Try.ntmps37
    go_wp2_with fail
    go_ret
    exact ⟨by simp, HB.out⟩
theorem bd_lower (a b : Ln) (w : World) : Calls Try.prog 29 #[a.val, b.val] w (AnsB (.bool (decide (fstL a b))) w) := by
  have HB := Lib.hid (two_box w a b)
  have HC := Lib.hid (bd_ahead a b)
  have HD : Hid (decide (fstL a b) = decide (a.r < b.r ∨ a.r = b.r ∧ aheadL a b)) := Lib.hid rfl
  generalize hA : decide (aheadL a b) = F at HC
  obtain ⟨ao, ar, av⟩ := a
  obtain ⟨bo, br, bw⟩ := b
  generalize decide (fstL ⟨ao, ar, av⟩ ⟨bo, br, bw⟩) = E at HD ⊢
  simp only at HB HC
  replace HD : Hid (E = decide (ar < br ∨ ar = br ∧ F = true)) := Lib.hid (by
    rw [HD.out, ← hA]
    apply decide_eq_decide.2
    simp)
  clear hA
  by_cases hv : ar = br
  · have t1 : ((ar : Int) == (br : Int)) = true := by rw [beq_iff_eq]; omega
    have HE : E = F := by
      rw [HD.out]
      cases F
      · rw [decide_eq_false_iff_not]; rintro (h | h)
        · omega
        · exact absurd h.2 (by decide)
      · rw [decide_eq_true_eq]; exact .inr ⟨hv, rfl⟩
    subst HE
    clear hv
    go_enter Try.func29, Try.ntmps29
    go_wp2_with fail
    ((with_reducible refine (HC.out _).mono ?_); rintro e W2 ⟨rfl, b2⟩)
    have HF := Lib.hid (HB.out.trans (b2.mono HB.out.size))
    clear b2
    go_wp2_with fail
    go_ret
    exact ⟨rfl, HF.out⟩
  · have t1 : ((ar : Int) == (br : Int)) = false := by rw [beq_eq_false_iff_ne]; omega
    have HE : E = decide ((ar : Int) < (br : Int)) := by
      rw [HD.out]
      apply decide_eq_decide.2
      omega
    subst HE
    clear hv
    go_enter Try.func29, Try.ntmps29
    go_wp2_with fail
    go_ret
    exact ⟨by simp, HB.out⟩
end Go.Proofs.Ytlbndhbfmjefeaa
