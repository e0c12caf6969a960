/- The project's order of deadlines: cmp.Compare, cmp.Or, compare. -/
import Derived.Test.YtkhhaokelhmikaaAlM
import Derived.Test.YtkhhaokelhmikaaSrt
import Derived.Test.YtkhhaokelhmikaaDr
import Derived.StillTailTactics
import Derived.StillTactics
import Derived.Deep.CutRange
namespace Go.Proofs.Ytkhhaokelhmikaa
open Go.RowKit Go.Sort Go.Proofs
set_option linter.unusedVariables false
set_option linter.unusedSimpArgs false
set_option maxRecDepth 20000

def cmpI (a b : Int) : Int := if a < b then -1 else if b < a then 1 else 0
def cmpD (x y : Du) : Int := if cmpI x.t y.t = 0 then cmpI (x.k : Int) (y.k : Int) else cmpI x.t y.t
theorem cmpD_lt (x y : Du) : ltOf cmpD x y = ltB x y := by
  unfold ltOf cmpD ltB cmpI
  by_cases h1 : x.t < y.t
  · simp [h1]
  · by_cases h2 : y.t < x.t
    · have : ¬ x.t = y.t := by omega
      simp [h1, h2, this]
    · have : x.t = y.t := by omega
      by_cases h3 : x.k < y.k
      · simp [h3, this]
      · by_cases h4 : y.k < x.k
        · simp [h3, h4, this]
        · simp [h3, h4, this]
theorem cmpD_order : SWO (ltOf cmpD) where
  irrefl x := by rw [cmpD_lt]; exact ltB_irrefl x
  trans x y z h1 h2 := by rw [cmpD_lt] at *; exact ltB_trans h1 h2
  ntrans x y z h1 h2 := by rw [cmpD_lt] at *; exact ltB_not h1 h2

theorem nan_i (x : Int) (w : World) : Calls Try.prog 35 #[.int .i64 x] w fun e w' => e = .returned (.bool false) ∧ w = w' := by
  go_enter Try.func35, Try.ntmps35
  go_wp2
  go_ret
  exact ⟨by simp, rfl⟩
theorem nan_u (x : Int) (w : World) : Calls Try.prog 36 #[.int .u64 x] w fun e w' => e = .returned (.bool false) ∧ w = w' := by
  go_enter Try.func36, Try.ntmps36
  go_wp2
  go_ret
  exact ⟨by simp, rfl⟩
theorem cmp_i (x y : Int) (w : World) : Calls Try.prog 23 #[.int .i64 x, .int .i64 y] w fun e w' => e = .returned (.int .i64 (cmpI x y)) ∧ w = w' := by
  go_enter Try.func23, Try.ntmps23
  go_wp2_with (first | (go_at_call 35; refine (nan_i _ _).mono ?_; rintro e w' ⟨rfl, rfl⟩) | fail)
  all_goals (go_ret; refine ⟨?_, rfl⟩; unfold cmpI; (repeat' split) <;> first | rfl | (exfalso; omega))
theorem cmp_u (x y : Int) (w : World) : Calls Try.prog 24 #[.int .u64 x, .int .u64 y] w fun e w' => e = .returned (.int .i64 (cmpI x y)) ∧ w = w' := by
  go_enter Try.func24, Try.ntmps24
  go_wp2_with (first | (go_at_call 36; refine (nan_u _ _).mono ?_; rintro e w' ⟨rfl, rfl⟩) | fail)
  all_goals (go_ret; refine ⟨?_, rfl⟩; unfold cmpI; (repeat' split) <;> first | rfl | (exfalso; omega))
/-- cmp.Or of two numbers that lie in a block. -/
theorem or_two (g : Nat) (p q : Int) (w : World) (c0 : w.cell? ⟨g, 0, none⟩ = some (.int .i64 p)) (c1 : w.cell? ⟨g, 1, none⟩ = some (.int .i64 q)) :
    Calls Try.prog 22 #[.slice (some ⟨g, 0, none⟩) 2 2] w fun e w' => e = .returned (.int .i64 (if p = 0 then q else p)) ∧ w = w' := by
  by_cases hp : p = 0
  · subst hp
    rw [if_pos rfl]
    by_cases hq : q = 0
    · subst hq
      go_enter Try.func22, Try.ntmps22
      go_wp2
      refine wp_loop_rounds 3 ?_
      rw [rounds_succ]
      go_wp2
      rw [rounds_succ]
      go_wp2
      rw [rounds_succ]
      go_wp2
      go_ret
      exact ⟨rfl, rfl⟩
    · have hq' : (q == 0) = false := by simpa using hq
      go_enter Try.func22, Try.ntmps22
      go_wp2
      refine wp_loop_rounds 2 ?_
      rw [rounds_succ]
      go_wp2
      rw [rounds_succ]
      go_wp2
      go_ret
      exact ⟨rfl, rfl⟩
  · have hp' : (p == 0) = false := by simpa using hp
    rw [if_neg hp]
    go_enter Try.func22, Try.ntmps22
    go_wp2
    refine wp_loop_rounds 1 ?_
    rw [rounds_succ]
    go_wp2
    go_ret
    exact ⟨rfl, rfl⟩
set_option maxHeartbeats 2000000 in
theorem compare_any (x y : Du) (w : World) : Calls Try.prog 19 #[x.val, y.val] w fun e w' => e = .returned (.int .i64 (cmpD x y)) ∧ ∃ q os', w' = grow (w.drewN q) os' := by
  have n1 := fun W => cmp_i x.t y.t W
  have n2 := fun W => cmp_u (x.k : Int) (y.k : Int) W
  have hr : cmpD x y = if cmpI x.t y.t = 0 then cmpI (x.k : Int) (y.k : Int) else cmpI x.t y.t := rfl
  generalize cmpI x.t y.t = a at n1 hr
  generalize cmpI (x.k : Int) (y.k : Int) = b at n2 hr
  generalize cmpD x y = r at hr ⊢
  have HR := Lib.hid hr
  clear hr
  obtain ⟨xt, xk⟩ := x
  obtain ⟨yt, yk⟩ := y
  go_enter Try.func19, Try.ntmps19
  go_upto_region 1 with (fail)
  obtain ⟨W, hWe⟩ : ∃ W, W = (w.alloc (.cells #[.int .i64 xt, .int .u64 (xk : Int)] 35)).alloc (.cells #[.int .i64 yt, .int .u64 (yk : Int)] 35) := ⟨_, rfl⟩
  have q0 : Blk W w.heap.size 35 #[.int .i64 xt, .int .u64 (xk : Int)] := by
    rw [hWe]
    exact ((belowA _ _).block _ (by simp)).trans (Blk.new w _ _)
  have q1 : Blk W (w.heap.size + 1) 35 #[.int .i64 yt, .int .u64 (yk : Int)] := by
    rw [hWe]
    have := Blk.new (w.alloc (.cells #[.int .i64 xt, .int .u64 (xk : Int)] 35)) 35 #[.int .i64 yt, .int .u64 (yk : Int)]
    rwa [show (w.alloc (.cells #[.int .i64 xt, .int .u64 (xk : Int)] 35)).heap.size = w.heap.size + 1 by simp] at this
  have hg : ∃ os, W = grow w os := ⟨_, by rw [hWe, alloc_eq_grow, alloc_eq_grow, grow_grow]⟩
  have HG := Lib.hid hg
  rw [← hWe]
  clear hWe hg
  have c0 : W.drew.cell? ⟨w.heap.size, 0, none⟩ = some (.int .i64 xt) := q0.cell 0
  have c1 : W.drew.cell? ⟨w.heap.size, 1, none⟩ = some (.int .u64 (xk : Int)) := q0.cell 1
  have d0 : W.drew.cell? ⟨w.heap.size + 1, 0, none⟩ = some (.int .i64 yt) := q1.cell 0
  have d1 : W.drew.cell? ⟨w.heap.size + 1, 1, none⟩ = some (.int .u64 (yk : Int)) := q1.cell 1
  have n1 := (n1 W.drew).mono fun e w' h => (⟨h.1, h.2.symm⟩ : e = .returned _ ∧ w' = W.drew)
  have n2 := (n2 W.drew).mono fun e w' h => (⟨h.1, h.2.symm⟩ : e = .returned _ ∧ w' = W.drew)
  clear q0 q1
  go_still_tail 10, (by kernel_rfl)
  still_call n1
  repeat still_step
  still_call n2
  repeat still_step
  refine wpStill_nil ?_
  change wpList _ _ _ _ _ W.drew
  clear c0 c1 d0 d1 n1 n2
  go_wp2_with fail
  have ho := or_two W.heap.size a b (W.alloc (.cells #[.int .i64 a, .int .i64 b] 3)).drew ((Blk.new W 3 #[.int .i64 a, .int .i64 b]).cell 0) ((Blk.new W 3 #[.int .i64 a, .int .i64 b]).cell 1)
  ((with_reducible refine ho.mono ?_); rintro e w' ⟨rfl, rfl⟩)
  clear ho
  rw [← HR.out]
  go_wp2_with fail
  go_ret
  obtain ⟨os, hos⟩ := HG.out
  subst hos
  exact ⟨rfl, 1, _, by rw [alloc_eq_grow, grow_grow]; rfl⟩
end Go.Proofs.Ytkhhaokelhmikaa
