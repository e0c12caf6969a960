/- Contracts of the project's bound: held, ahead, lower. Contracts of the project's bound: apart, sooner, meetAbove. -/
import Derived.Test.YtfijlgkgbbemnaaBdB
import Derived.BigQuiet
import Derived.Deep.QuietTactic
import Derived.Test.YtfijlgkgbbemnaaNe
import Derived.Deep.CutRange
namespace Go.Proofs.Ytfijlgkgbbemnaa
open Go.RowKit
set_option linter.unusedVariables false
set_option linter.unusedSimpArgs false
set_option maxRecDepth 20000

@[reducible] def Ln.val (a : Ln) : Value := .agg #[.int .u32 (a.o : Int), .int .u64 (a.r : Int), .int .i64 (a.v : Int)]
/-- a comes ahead of b where they are as good. -/
def aheadL (a b : Ln) : Prop := b.v < a.v ∨ a.v = b.v ∧ a.o < b.o
instance (a b : Ln) : Decidable (aheadL a b) := by unfold aheadL; infer_instance
instance (a b : Ln) : Decidable (fstL a b) := by unfold fstL; infer_instance
instance (at_ a b : Ln) : Decidable (betterL at_ a b) := by unfold betterL; infer_instance
instance (a b : Ln) : Decidable (above a b) := by unfold above; infer_instance

theorem bd_held (t : Tup) (ht : t.In) (w : World) : Calls Try.prog 51 #[t.val] w (AnsB (holdT t).val w) := by
  obtain ⟨o, r, v⟩ := t
  obtain ⟨h1, h2, h3⟩ := ht
  simp only at h1 h2 h3
  obtain ⟨R, hR⟩ : ∃ R, R = min r 1099511627776 := ⟨_, rfl⟩
  obtain ⟨V, hV⟩ : ∃ V, V = min v.toNat 511 := ⟨_, rfl⟩
  have e : (holdT ⟨o, r, v⟩).val = .agg #[.int .u32 (o : Int), .int .u64 (R : Int), .int .i64 (V : Int)] := by rw [hR, hV]; rfl
  rw [e]
  clear e
  have bb := ((Below.refl w.heap.size w).alloc (Nat.le_refl _) (.cells #[.int .u32 (o : Int), .int .u64 (R : Int), .int .i64 (V : Int)] 31)).alloc (by simp) (.cells #[.int .u32 (o : Int), .int .u64 (R : Int), .int .i64 (V : Int)] 31)
  have HB := Lib.hid bb
  clear bb
  unfold I64 at h3
  have hv : (v ≤ 0 ∧ V = 0) ∨ (0 < v ∧ v ≤ 511 ∧ v = (V : Int)) ∨ (511 < v ∧ V = 511) := by omega
  have hr : (r ≤ 1099511627776 ∧ r = R) ∨ (1099511627776 < r ∧ R = 1099511627776) := by omega
  clear hR hV
  rcases hr with ⟨hr, rfl⟩ | ⟨hr, rfl⟩
  all_goals rcases hv with ⟨hv, rfl⟩ | ⟨hv, hv2, rfl⟩ | ⟨hv, rfl⟩
  · have z1 : (r : Int) ≤ 1099511627776 := by omega
    have z2 : ¬ (1099511627776 : Int) < (r : Int) := by omega
    have z3 : v ≤ 511 := by omega
    have z4 : ¬ 0 < v := by omega
    have z5 : v ≤ 0 := by omega
    go_enter Try.func51, Try.ntmps51
    go_wp2_with fail
    refine bodyPost_ret (by simp [results, Try.results51, go_sem]; try rfl) rfl ?_
    exact ⟨rfl, HB.out⟩
  · have z1 : (r : Int) ≤ 1099511627776 := by omega
    have z2 : ¬ (1099511627776 : Int) < (r : Int) := by omega
    have z3 : (V : Int) ≤ 511 := by omega
    have z4 : (0 : Int) < (V : Int) := by omega
    have z5 : 0 < V := by omega
    go_enter Try.func51, Try.ntmps51
    go_wp2_with fail
    refine bodyPost_ret (by simp [results, Try.results51, go_sem]; try rfl) rfl ?_
    exact ⟨rfl, HB.out⟩
  · have z1 : (r : Int) ≤ 1099511627776 := by omega
    have z2 : ¬ (1099511627776 : Int) < (r : Int) := by omega
    have z3 : ¬ v ≤ 511 := by omega
    go_enter Try.func51, Try.ntmps51
    go_wp2_with fail
    refine bodyPost_ret (by simp [results, Try.results51, go_sem]; try rfl) rfl ?_
    exact ⟨rfl, HB.out⟩
  · have z1 : ¬ (r : Int) ≤ 1099511627776 := by omega
    have z2 : (1099511627776 : Int) < (r : Int) := by omega
    have z3 : v ≤ 511 := by omega
    have z4 : ¬ 0 < v := by omega
    have z5 : v ≤ 0 := by omega
    go_enter Try.func51, Try.ntmps51
    go_wp2_with fail
    refine bodyPost_ret (by simp [results, Try.results51, go_sem]; try rfl) rfl ?_
    exact ⟨rfl, HB.out⟩
  · have z1 : ¬ (r : Int) ≤ 1099511627776 := by omega
    have z2 : (1099511627776 : Int) < (r : Int) := by omega
    have z3 : (V : Int) ≤ 511 := by omega
    have z4 : (0 : Int) < (V : Int) := by omega
    have z5 : 0 < V := by omega
    go_enter Try.func51, Try.ntmps51
    go_wp2_with fail
    refine bodyPost_ret (by simp [results, Try.results51, go_sem]; try rfl) rfl ?_
    exact ⟨rfl, HB.out⟩
  · have z1 : ¬ (r : Int) ≤ 1099511627776 := by omega
    have z2 : (1099511627776 : Int) < (r : Int) := by omega
    have z3 : ¬ v ≤ 511 := by omega
    go_enter Try.func51, Try.ntmps51
    go_wp2_with fail
    refine bodyPost_ret (by simp [results, Try.results51, go_sem]; try rfl) rfl ?_
    exact ⟨rfl, HB.out⟩
theorem two_box (w : World) (a b : Ln) : Below w.heap.size w ((w.alloc (.cells #[.int .u32 (a.o : Int), .int .u64 (a.r : Int), .int .i64 (a.v : Int)] 31)).alloc (.cells #[.int .u32 (b.o : Int), .int .u64 (b.r : Int), .int .i64 (b.v : Int)] 31)) :=
  ((Below.refl w.heap.size w).alloc (Nat.le_refl _) _).alloc (by simp) _
theorem bd_ahead (a b : Ln) (w : World) : Calls Try.prog 57 #[a.val, b.val] w (AnsB (.bool (decide (aheadL a b))) w) := by
  have HB := Lib.hid (two_box w a b)
  have HD : Hid (decide (aheadL a b) = decide (b.v < a.v ∨ a.v = b.v ∧ a.o < b.o)) := Lib.hid rfl
  obtain ⟨ao, ar, av⟩ := a
  obtain ⟨bo, br, bw⟩ := b
  generalize decide (aheadL ⟨ao, ar, av⟩ ⟨bo, br, bw⟩) = E at HD ⊢
  simp only at HB
  replace HD : Hid (E = decide (bw < av ∨ av = bw ∧ ao < bo)) := Lib.hid HD.out
  by_cases hv : av = bw
  · have t1 : ((av : Int) == (bw : Int)) = true := by rw [beq_iff_eq]; omega
    have HE : E = decide ((ao : Int) < (bo : Int)) := by
      rw [HD.out]
      apply decide_eq_decide.2
      omega
    subst HE
    clear hv
    go_enter Try.func57, Try.ntmps57
    go_wp2_with fail
    go_ret
    exact ⟨by simp, HB.out⟩
  · have t1 : ((av : Int) == (bw : Int)) = false := by rw [beq_eq_false_iff_ne]; omega
    have HE : E = decide ((bw : Int) < (av : Int)) := by
      rw [HD.out]
      apply decide_eq_decide.2
      omega
    subst HE
    clear hv
    go_enter Try.func57, Try.ntmps57
    go_wp2_with fail
    go_ret
    exact ⟨by simp, HB.out⟩
theorem bd_lower (a b : Ln) (w : World) : Calls Try.prog 52 #[a.val, b.val] w (AnsB (.bool (decide (fstL a b))) w) := by
  have HB := Lib.hid (two_box w a b)
  have HC := Lib.hid (bd_ahead a b)
  have HD : Hid (decide (fstL a b) = decide (a.r < b.r ∨ a.r = b.r ∧ aheadL a b)) := Lib.hid rfl
  generalize hA : decide (aheadL a b) = F at HC
  obtain ⟨ao, ar, av⟩ := a
  obtain ⟨bo, br, bw⟩ := b
  generalize decide (fstL ⟨ao, ar, av⟩ ⟨bo, br, bw⟩) = E at HD ⊢
  simp only at HB HC
  replace HD : Hid (E = decide (ar < br ∨ ar = br ∧ F = true)) := Lib.hid (by
    rw [HD.out, ← hA]
    apply decide_eq_decide.2
    simp)
  clear hA
  by_cases hv : ar = br
  · have t1 : ((ar : Int) == (br : Int)) = true := by rw [beq_iff_eq]; omega
    have HE : E = F := by
      rw [HD.out]
      cases F
      · rw [decide_eq_false_iff_not]; rintro (h | h)
        · omega
        · exact absurd h.2 (by decide)
      · rw [decide_eq_true_eq]; exact .inr ⟨hv, rfl⟩
    subst HE
    clear hv
    go_enter Try.func52, Try.ntmps52
    go_wp2_with fail
    ((with_reducible refine (HC.out _).mono ?_); rintro e W2 ⟨rfl, b2⟩)
    have HF := Lib.hid (HB.out.trans (b2.mono HB.out.size))
    clear b2
    go_wp2_with fail
    go_ret
    exact ⟨rfl, HF.out⟩
  · have t1 : ((ar : Int) == (br : Int)) = false := by rw [beq_eq_false_iff_ne]; omega
    have HE : E = decide ((ar : Int) < (br : Int)) := by
      rw [HD.out]
      apply decide_eq_decide.2
      omega
    subst HE
    clear hv
    go_enter Try.func52, Try.ntmps52
    go_wp2_with fail
    go_ret
    exact ⟨by simp, HB.out⟩
end Go.Proofs.Ytfijlgkgbbemnaa
namespace Go.Proofs.Ytfijlgkgbbemnaa
open Go.RowKit
set_option linter.unusedVariables false
set_option linter.unusedSimpArgs false
set_option maxRecDepth 20000

/-- By how much b is above a, in the one and the other. -/
@[reducible] def apR (a b : Ln) : Int := (b.r : Int) - (a.r : Int)
@[reducible] def apV (a b : Ln) : Int := (b.v : Int) - (a.v : Int)
theorem po_apR (a b : Ln) : po (apR a b) = b.r - a.r := by unfold po apR; omega
theorem po_apV (a b : Ln) : po (apV a b) = b.v - a.v := by unfold po apV; omega
theorem apR_in {a b : Ln} (ha : a.In) (hb : b.In) : I64 (apR a b) := by have := ha.r; have := hb.r; unfold I64 apR; omega
theorem apV_in {a b : Ln} (ha : a.In) (hb : b.In) : I64 (apV a b) := by have := ha.v; have := hb.v; unfold I64 apV; omega
theorem bd_apart (a b : Ln) (ha : a.In) (hb : b.In) (w : World) : Calls Try.prog 58 #[a.val, b.val] w (AnsB (.tuple #[.int .i64 (apR a b), .int .i64 (apV a b)]) w) := by
  have HB := Lib.hid (two_box w a b)
  have h1 := ha.r
  have h2 := ha.v
  have h3 := hb.r
  have h4 := hb.v
  obtain ⟨ao, ar, av⟩ := a
  obtain ⟨bo, br, bw⟩ := b
  simp only at HB h1 h2 h3 h4
  have y1 : IntKind.i64.wrap (IntKind.u64.wrap ((br : Int) - (ar : Int))) = (br : Int) - (ar : Int) := by rw [IntKind.wrap_u64, IntKind.wrap_i64]; omega
  have y2 : IntKind.i64.wrap ((bw : Int) - (av : Int)) = (bw : Int) - (av : Int) := by rw [IntKind.wrap_i64]; omega
  clear ha hb h1 h2 h3 h4
  go_enter Try.func58, Try.ntmps58
  go_upto_region 1 with (fail)
  go_quiet (fail)
  go_wp2_with fail
  go_ret2
  exact ⟨by first | rfl | simp [y1, y2], ⟨HB.out.os, HB.out.tape, HB.out.output, HB.out.size, HB.out.block⟩⟩
/-- Two, and three, boxes that stand. -/
def Bx2 (W : World) (g : Nat) (a b : Ln) : Prop := Blk W g 31 #[.int .u32 (a.o : Int), .int .u64 (a.r : Int), .int .i64 (a.v : Int)] ∧ Blk W (g + 1) 31 #[.int .u32 (b.o : Int), .int .u64 (b.r : Int), .int .i64 (b.v : Int)]
theorem Bx2.on {W W' : World} {g : Nat} {a b : Ln} (h : Bx2 W g a b) (hb : Below W.heap.size W W') : Bx2 W' g a b := ⟨h.1.below hb h.1.lt, h.2.below hb h.2.lt⟩
def bx2 (w : World) (a b : Ln) : World := (w.alloc (.cells #[.int .u32 (a.o : Int), .int .u64 (a.r : Int), .int .i64 (a.v : Int)] 31)).alloc (.cells #[.int .u32 (b.o : Int), .int .u64 (b.r : Int), .int .i64 (b.v : Int)] 31)
theorem Bx2.new (w : World) (a b : Ln) : Bx2 ((w.alloc (.cells #[.int .u32 (a.o : Int), .int .u64 (a.r : Int), .int .i64 (a.v : Int)] 31)).alloc (.cells #[.int .u32 (b.o : Int), .int .u64 (b.r : Int), .int .i64 (b.v : Int)] 31)) w.heap.size a b := by
  refine ⟨(Blk.new w _ _).alloc _, ?_⟩
  have := Blk.new (w.alloc (.cells #[.int .u32 (a.o : Int), .int .u64 (a.r : Int), .int .i64 (a.v : Int)] 31)) 31 #[.int .u32 (b.o : Int), .int .u64 (b.r : Int), .int .i64 (b.v : Int)]
  rwa [show (w.alloc (.cells #[.int .u32 (a.o : Int), .int .u64 (a.r : Int), .int .i64 (a.v : Int)] 31)).heap.size = w.heap.size + 1 by simp] at this
def Bx3 (W : World) (g : Nat) (l a b : Ln) : Prop := Bx2 W g l a ∧ Blk W (g + 2) 31 #[.int .u32 (b.o : Int), .int .u64 (b.r : Int), .int .i64 (b.v : Int)]
theorem Bx3.on {W W' : World} {g : Nat} {l a b : Ln} (h : Bx3 W g l a b) (hb : Below W.heap.size W W') : Bx3 W' g l a b := ⟨h.1.on hb, h.2.below hb h.2.lt⟩
theorem Bx3.new (w : World) (l a b : Ln) : Bx3 (((w.alloc (.cells #[.int .u32 (l.o : Int), .int .u64 (l.r : Int), .int .i64 (l.v : Int)] 31)).alloc (.cells #[.int .u32 (a.o : Int), .int .u64 (a.r : Int), .int .i64 (a.v : Int)] 31)).alloc (.cells #[.int .u32 (b.o : Int), .int .u64 (b.r : Int), .int .i64 (b.v : Int)] 31)) w.heap.size l a b := by
  have h := Bx2.new w l a
  refine ⟨⟨h.1.alloc _, h.2.alloc _⟩, ?_⟩
  have := Blk.new ((w.alloc (.cells #[.int .u32 (l.o : Int), .int .u64 (l.r : Int), .int .i64 (l.v : Int)] 31)).alloc (.cells #[.int .u32 (a.o : Int), .int .u64 (a.r : Int), .int .i64 (a.v : Int)] 31)) 31 #[.int .u32 (b.o : Int), .int .u64 (b.r : Int), .int .i64 (b.v : Int)]
  rwa [show ((w.alloc (.cells #[.int .u32 (l.o : Int), .int .u64 (l.r : Int), .int .i64 (l.v : Int)] 31)).alloc (.cells #[.int .u32 (a.o : Int), .int .u64 (a.r : Int), .int .i64 (a.v : Int)] 31)).heap.size = w.heap.size + 2 by simp] at this
theorem bd_sooner (l a b : Ln) (hl : l.In) (ha : a.In) (hb : b.In) (w : World) : Calls Try.prog 53 #[l.val, a.val, b.val] w (AnsB (.bool (decide (betterL l a b))) w) := by
  have H3 := Lib.hid (Bx3.new w l a b)
  have HB := Lib.hid (((two_box w l a).trans ((belowA _ (.cells #[.int .u32 (b.o : Int), .int .u64 (b.r : Int), .int .i64 (b.v : Int)] 31)).mono (two_box w l a).size)))
  have c1 := Lib.hid (bd_apart l a hl ha)
  have c2 := Lib.hid (bd_apart l b hl hb)
  have c3 := Lib.hid (clock_less (apR l a) (apV l b) (apR l b) (apV l a) (apR_in hl ha) (apV_in hl hb) (apR_in hl hb) (apV_in hl ha))
  have c4 := Lib.hid (clock_less (apR l b) (apV l a) (apR l a) (apV l b) (apR_in hl hb) (apV_in hl ha) (apR_in hl ha) (apV_in hl hb))
  have c5 := Lib.hid (bd_ahead a b)
  have e3 : lessC (apR l a) (apV l b) (apR l b) (apV l a) = decide ((a.r - l.r) * (b.v - l.v) < (b.r - l.r) * (a.v - l.v)) := by unfold lessC; rw [po_apR, po_apR, po_apV, po_apV]
  have e4 : lessC (apR l b) (apV l a) (apR l a) (apV l b) = decide ((b.r - l.r) * (a.v - l.v) < (a.r - l.r) * (b.v - l.v)) := by unfold lessC; rw [po_apR, po_apR, po_apV, po_apV]
  have HE : Hid (decide (betterL l a b) = if lessC (apR l a) (apV l b) (apR l b) (apV l a) then true else if lessC (apR l b) (apV l a) (apR l a) (apV l b) then false else decide (aheadL a b)) := Lib.hid (by
    rw [e3, e4]
    have hd : betterL l a b ↔ (a.r - l.r) * (b.v - l.v) < (b.r - l.r) * (a.v - l.v) ∨ (a.r - l.r) * (b.v - l.v) = (b.r - l.r) * (a.v - l.v) ∧ aheadL a b := Iff.rfl
    generalize (a.r - l.r) * (b.v - l.v) = X at *
    generalize (b.r - l.r) * (a.v - l.v) = Y at *
    by_cases h1 : X < Y
    · rw [if_pos (by simpa using h1), decide_eq_true_eq]
      exact hd.2 (.inl h1)
    · rw [if_neg (by simpa using h1)]
      by_cases h2 : Y < X
      · rw [if_pos (by simpa using h2), decide_eq_false_iff_not]
        intro h
        rcases hd.1 h with h | h
        · exact h1 h
        · omega
      · rw [if_neg (by simpa using h2)]
        apply decide_eq_decide.2
        rw [hd]
        constructor
        · rintro (h | h)
          · omega
          · exact h.2
        · intro h
          exact .inr ⟨by omega, h⟩)
  clear e3 e4 hl ha hb
  generalize lessC (apR l a) (apV l b) (apR l b) (apV l a) = E1 at *
  generalize lessC (apR l b) (apV l a) (apR l a) (apV l b) = E2 at *
  generalize decide (aheadL a b) = E3 at *
  generalize decide (betterL l a b) = E at *
  generalize apR l a = x1 at *
  generalize apV l a = x2 at *
  generalize apR l b = x3 at *
  generalize apV l b = x4 at *
  obtain ⟨lo, lr, lv⟩ := l
  obtain ⟨ao, ar, av⟩ := a
  obtain ⟨bo, br, bw⟩ := b
  simp only [Bx3, Bx2] at H3
  simp only at HB c1 c2 c5
  go_enter Try.func53, Try.ntmps53
  go_wp2_with fail
  ((with_reducible refine (c1.out _).mono ?_); rintro e W1 ⟨rfl, b1⟩)
  have HK := Lib.hid (HB.out.trans (b1.mono HB.out.size))
  have q1 := H3.out.1.1.below b1 H3.out.1.1.lt
  have q2 := H3.out.1.2.below b1 H3.out.1.2.lt
  have q3 := H3.out.2.below b1 H3.out.2.lt
  clear HB b1 H3 c1
  have l0 := q1.cell 0
  have l1 := q1.cell 1
  have l2 := q1.cell 2
  have b0 := q3.cell 0
  have b1 := q3.cell 1
  have b2 := q3.cell 2
  have HQ := Lib.hid (⟨q1, q2, q3⟩ : _ ∧ _ ∧ _)
  clear q1 q2 q3
  go_wp2_with fail
  ((with_reducible refine (c2.out _).mono ?_); rintro e W2 ⟨rfl, b9⟩)
  have HK2 := Lib.hid (HK.out.trans (b9.mono HK.out.size))
  have q2 := HQ.out.2.1.below b9 HQ.out.2.1.lt
  have q3 := HQ.out.2.2.below b9 HQ.out.2.2.lt
  clear l0 l1 l2 b0 b1 b2 b9 HQ HK c2
  have a0 := q2.cell 0
  have a1 := q2.cell 1
  have a2 := q2.cell 2
  have b0 := q3.cell 0
  have b1 := q3.cell 1
  have b2 := q3.cell 2
  clear q2 q3
  go_wp2_with fail
  ((with_reducible refine (c3.out _).mono ?_); rintro e W3 ⟨rfl, rfl⟩)
  clear c3
  cases E1
  · go_wp2_with fail
    ((with_reducible refine (c4.out _).mono ?_); rintro e W3 ⟨rfl, rfl⟩)
    clear c4
    cases E2
    · have hE : E = E3 := HE.out
      subst hE
      go_wp2_with fail
      ((with_reducible refine (c5.out _).mono ?_); rintro e W4 ⟨rfl, b4⟩)
      have HF := Lib.hid (HK2.out.trans (b4.mono HK2.out.size))
      clear b4 a0 a1 a2 b0 b1 b2
      go_wp2_with fail
      go_ret
      exact ⟨rfl, HF.out⟩
    · have hE : E = false := HE.out
      subst hE
      clear a0 a1 a2 b0 b1 b2
      go_wp2_with fail
      go_ret
      exact ⟨rfl, HK2.out⟩
  · have hE : E = true := HE.out
    subst hE
    clear a0 a1 a2 b0 b1 b2
    go_wp2_with fail
    go_ret
    exact ⟨rfl, HK2.out⟩
theorem bd_above (a b : Ln) (ha : a.In) (hb : b.In) (w : World) : Calls Try.prog 54 #[a.val, b.val] w (AnsB (.bool (decide (above a b))) w) := by
  have HB := Lib.hid (two_box w a b)
  have H2 := Lib.hid (Bx2.new w a b)
  have c1 := Lib.hid (bd_apart a b ha hb)
  have hv : I64 (a.v : Int) := by have := ha.v; unfold I64; omega
  have hr : I64 (a.r : Int) := by have := ha.r; unfold I64; omega
  have y1 : IntKind.i64.wrap (a.r : Int) = (a.r : Int) := by have := ha.r; rw [IntKind.wrap_i64]; omega
  have y2 : IntKind.i64.wrap (a.v : Int) = (a.v : Int) := by have := ha.v; rw [IntKind.wrap_i64]; omega
  have c3 := Lib.hid (clock_less (a.v : Int) (apR a b) (a.r : Int) (apV a b) hv (apR_in ha hb) hr (apV_in ha hb))
  have e3 : lessC (a.v : Int) (apR a b) (a.r : Int) (apV a b) = decide (above a b) := by
    unfold lessC above
    rw [po_apR, po_apV, show po (a.v : Int) = a.v from by unfold po; omega, show po (a.r : Int) = a.r from by unfold po; omega]
  rw [e3] at c3
  clear e3 hv hr ha hb
  generalize decide (above a b) = E at *
  generalize apR a b = x1 at *
  generalize apV a b = x2 at *
  obtain ⟨ao, ar, av⟩ := a
  obtain ⟨bo, br, bw⟩ := b
  simp only [Bx2] at H2
  simp only at HB c1 c3 y1 y2
  go_enter Try.func54, Try.ntmps54
  go_wp2_with fail
  ((with_reducible refine (c1.out _).mono ?_); rintro e W1 ⟨rfl, b1⟩)
  have HK := Lib.hid (HB.out.trans (b1.mono HB.out.size))
  have q1 := H2.out.1.below b1 H2.out.1.lt
  clear HB b1 H2 c1
  have l0 := q1.cell 0
  have l1 := q1.cell 1
  have l2 := q1.cell 2
  clear q1
  go_wp2_with fail
  ((with_reducible refine (c3.out _).mono ?_); rintro e W3 ⟨rfl, rfl⟩)
  clear c3 l0 l1 l2
  go_wp2_with fail
  go_ret
  exact ⟨rfl, HK.out⟩
end Go.Proofs.Ytfijlgkgbbemnaa
