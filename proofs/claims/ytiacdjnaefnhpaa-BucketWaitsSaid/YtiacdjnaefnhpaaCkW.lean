/- Contract: limelightref9's bucket: Wait. -/
import Derived.Test.YtiacdjnaefnhpaaCkB
import Derived.Test.YtiacdjnaefnhpaaCkV
namespace Go.Proofs.Ytiacdjnaefnhpaa
open Go.RowKit
set_option linter.unusedVariables false
set_option linter.unusedSimpArgs false
set_option maxRecDepth 20000

/-- Answers a value; no more than the draws have turned. -/
def Qui (v : Value) (w : World) (e : Ending) (w' : World) : Prop := e = .returned v ∧ (w' = w ∨ w' = w.drew)
theorem Qui.below {v : Value} {w w' : World} {e : Ending} (h : Qui v w e w') : Below w.heap.size w w' := by
  rcases h.2 with h | h
  · rw [h]; exact Below.refl _ _
  · rw [h]; exact (Below.refl _ w).drew
theorem ref_wait (g r u l : Nat) (n : Int) (w : World) (h : BkAt w g r u l) (ok : BkOk r u l) (hn : I64 n) : Calls Try.prog 33 #[.pointer (some ⟨g, 0, none⟩), .int .i64 n] w (Qui (.int .i64 (waitN r u l n)) w) := by
  have hl := ok.level
  have hu := ok.burst
  have hr := ok.rate
  have k0 : w.cell? ⟨g, 0, none⟩ = some (.int .i64 (r : Int)) := Blk.cell h 0
  have k1 : w.cell? ⟨g, 1, none⟩ = some (.int .i64 (u : Int)) := Blk.cell h 1
  have k2 : w.cell? ⟨g, 2, none⟩ = some (.int .i64 (l : Int)) := Blk.cell h 2
  clear h ok
  by_cases hn0 : n < 0
  · have e1 : waitN r u l n = -1 := by unfold waitN; rw [if_neg (by omega), if_pos (.inl hn0)]
    rw [e1]
    have t0 : decide (n < 0) = true := by simpa using hn0
    have t1 : decide (0 ≤ n) = false := by simp; omega
    clear e1
    go_enter Try.func33, Try.ntmps33
    go_wp2_with fail
    go_ret
    exact ⟨rfl, .inl rfl⟩
  obtain ⟨m, rfl⟩ : ∃ m : Nat, n = (m : Int) := ⟨n.toNat, by omega⟩
  have hd : (l : Int).tdiv 1000000 = ((l / 1000000 : Nat) : Int) := by rw [Int.tdiv_eq_ediv_of_nonneg (by omega)]; rfl
  have hd2 : (l : Int) / 1000000 = ((l / 1000000 : Nat) : Int) := by omega
  obtain ⟨D, hD⟩ : ∃ D, D = l / 1000000 := ⟨_, rfl⟩
  rw [← hD] at hd hd2
  have hDl : D ≤ 1099511627776 := by rw [hD]; omega
  have yD : IntKind.i64.wrap (D : Int) = (D : Int) := i64_nn _ (by omega)
  by_cases hm : m ≤ D
  · have e1 : waitN r u l m = 0 := by unfold waitN; rw [if_pos (by rw [← hD]; omega)]
    rw [e1]
    have t1 : decide ((m : Int) ≤ (D : Int)) = true := by simp; omega
    have t2 : (m : Int) ≤ (D : Int) := by omega
    clear e1 hD
    go_enter Try.func33, Try.ntmps33
    go_wp2_with fail
    go_ret
    exact ⟨rfl, .inl rfl⟩
  have t1 : decide ((m : Int) ≤ (D : Int)) = false := by simp; omega
  have t2 : ¬ (m : Int) ≤ (D : Int) := by omega
  by_cases hmu : u < m
  · have e1 : waitN r u l m = -1 := by unfold waitN; rw [if_neg (by rw [← hD]; omega), if_pos (.inr (.inl (by omega)))]
    rw [e1]
    have t3 : decide ((u : Int) < (m : Int)) = true := by simp; omega
    have t4 : (u : Int) < (m : Int) := by omega
    clear e1 hD hm
    go_enter Try.func33, Try.ntmps33
    go_wp2_with fail
    go_ret
    exact ⟨rfl, .inl rfl⟩
  have t3 : decide ((u : Int) < (m : Int)) = false := by simp; omega
  have t4 : ¬ (u : Int) < (m : Int) := by omega
  by_cases hr0 : r = 0
  · subst hr0
    have e1 : waitN 0 u l m = -1 := by unfold waitN; rw [if_neg (by rw [← hD]; omega), if_pos (.inr (.inr rfl))]
    rw [e1]
    clear e1 hD hm
    go_enter Try.func33, Try.ntmps33
    go_wp2_with fail
    go_ret
    exact ⟨rfl, .inl rfl⟩
  have t5 : ((r : Int) == 0) = false := by rw [beq_eq_false_iff_ne]; omega
  have e1 : waitN r u l m = (overC ((m : Int) * 1000000 - l) r : Nat) := by unfold waitN; rw [if_neg (by rw [← hD]; omega), if_neg (by omega)]
  rw [e1]
  have y1 : IntKind.i64.wrap ((m : Int) * 1000000) = (m : Int) * 1000000 := by rw [IntKind.wrap_i64]; omega
  have y2 : IntKind.i64.wrap ((m : Int) * 1000000 - (l : Int)) = (m : Int) * 1000000 - (l : Int) := by rw [IntKind.wrap_i64]; omega
  have mo := ref_over ((m : Int) * 1000000 - l) (r : Int) (by unfold I64; omega) (i64_nat r (by omega))
  generalize overC ((m : Int) * 1000000 - l) r = T at mo ⊢
  have n1 := (mo w.drew).mono fun e w' h => (⟨h.1, h.2.symm⟩ : e = .returned _ ∧ w' = w.drew)
  clear e1 mo hD hm hr0 hmu
  go_enter Try.func33, Try.ntmps33
  go_upto_region 5 with (fail)
  have k0 : w.drew.cell? ⟨g, 0, none⟩ = some (.int .i64 (r : Int)) := k0
  have k2 : w.drew.cell? ⟨g, 2, none⟩ = some (.int .i64 (l : Int)) := k2
  go_still_tail 12, (by kernel_rfl)
  still_call n1
  repeat still_step
  refine wpStill_nil ?_
  change wpList _ _ _ _ _ w.drew
  clear n1 k0 k2
  go_wp2
  go_ret
  exact ⟨rfl, .inr rfl⟩
end Go.Proofs.Ytiacdjnaefnhpaa
