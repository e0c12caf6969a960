/- Contract: the project's bucket: Wait (project of round 10). -/
import Derived.Test.YtiacdjnaefnhpaaBuP
import Derived.Test.YtiacdjnaefnhpaaCkW
import Derived.Test.YtiacdjnaefnhpaaCkU
namespace Go.Proofs.Ytiacdjnaefnhpaa
open Go.RowKit
set_option linter.unusedVariables false
set_option linter.unusedSimpArgs false
set_option maxRecDepth 20000

theorem Dn.of {v : Value} {w w' : World} {e : Ending} (h : Qui v w e w') : Dn v w e w' := by
  rcases h with ⟨rfl, rfl | rfl⟩
  · exact ⟨rfl, 0, rfl⟩
  · exact ⟨rfl, 1, rfl⟩
theorem pk_wait (g r u l : Nat) (n : Int) (w : World) (h : PkAt w g r u l) (ok : BkOk r u l) (hn : I64 n) : Calls Try.prog 15 #[.pointer (some ⟨g, 0, none⟩), .int .i64 n] w (Dn (.int .i64 (waitN r u l n)) w) := by
  have hl := ok.level
  have hu := ok.burst
  have hr := ok.rate
  have ch := pk_has g r u l n w h ok hn
  have k0 : ∀ q, (w.drewN q).cell? ⟨g, 0, none⟩ = some (.int .i64 (r : Int)) := fun q => Blk.cell (h.on (belowDrewN w q)) 0
  have k1 : ∀ q, (w.drewN q).cell? ⟨g, 1, none⟩ = some (.int .i64 (u : Int)) := fun q => Blk.cell (h.on (belowDrewN w q)) 1
  have k2 : ∀ q, (w.drewN q).cell? ⟨g, 2, none⟩ = some (.int .i64 (l : Int)) := fun q => Blk.cell (h.on (belowDrewN w q)) 2
  have K0 := Lib.hid k0
  have K1 := Lib.hid k1
  have K2 := Lib.hid k2
  clear k0 k1 k2 h ok
  cases eB : takeB l n
  · rw [eB] at ch
    have hno : ¬ (0 ≤ n ∧ n ≤ (l / 1000000 : Nat)) := by unfold takeB at eB; exact of_decide_eq_false eB
    by_cases hbad : n < 0 ∨ (u : Int) < n ∨ r = 0
    · have e1 : waitN r u l n = -1 := by unfold waitN; rw [if_neg hno, if_pos hbad]
      rw [e1]
      clear e1 hno eB
      by_cases hn0 : n < 0
      · have t0 : decide (n < 0) = true := by simpa using hn0
        clear hbad
        go_enter Try.func15, Try.ntmps15
        go_wp2_with fail
        refine ch.mono ?_
        rintro e W1 ⟨rfl, q, rfl⟩
        clear ch
        go_wp2_with fail
        go_ret
        exact ⟨rfl, _, rfl⟩
      have t0 : decide (n < 0) = false := by simp; omega
      by_cases hnu : (u : Int) < n
      · have t1 : decide ((u : Int) < n) = true := by simpa using hnu
        clear hbad
        go_enter Try.func15, Try.ntmps15
        go_wp2_with fail
        refine ch.mono ?_
        rintro e W1 ⟨rfl, q, rfl⟩
        have k1 := K1.out q
        clear ch
        go_wp2_with fail
        go_ret
        exact ⟨rfl, _, rfl⟩
      have t1 : decide ((u : Int) < n) = false := by simpa using hnu
      have hr0 : r = 0 := by omega
      subst hr0
      clear hbad
      go_enter Try.func15, Try.ntmps15
      go_wp2_with fail
      refine ch.mono ?_
      rintro e W1 ⟨rfl, q, rfl⟩
      have k0 := K0.out q
      have k1 := K1.out q
      clear ch
      go_wp2_with fail
      go_ret
      exact ⟨rfl, _, rfl⟩
    · obtain ⟨m, rfl⟩ : ∃ m : Nat, n = (m : Int) := ⟨n.toNat, by omega⟩
      have t0 : decide ((m : Int) < 0) = false := by simp
      have t1 : decide ((u : Int) < (m : Int)) = false := by simp; omega
      have t1' : ¬ (u : Int) < (m : Int) := by omega
      have t1'' : ¬ u < m := by omega
      have t5 : ((r : Int) == 0) = false := by rw [beq_eq_false_iff_ne]; omega
      have t5' : ¬ r = 0 := by omega
      have e1 : waitN r u l m = (overC ((m : Int) * 1000000 - l) r : Nat) := by unfold waitN; rw [if_neg hno, if_neg hbad]
      rw [e1]
      have hm1 : m ≤ 1099511627776 := by omega
      have m3 := fun w => parts_held (n := m) hm1 w
      have y2 : IntKind.i64.wrap (((m * 1000000 : Nat) : Int) - (l : Int)) = (m : Int) * 1000000 - (l : Int) := by rw [IntKind.wrap_i64]; omega
      have mo := clock_over ((m : Int) * 1000000 - l) (r : Int) (by unfold I64; omega) (i64_nat r (by omega))
      generalize overC ((m : Int) * 1000000 - l) r = T at mo ⊢
      obtain ⟨M, hM⟩ : ∃ M, M = m * 1000000 := ⟨_, rfl⟩
      rw [← hM] at y2 m3
      obtain ⟨Z, hZ⟩ : ∃ Z, Z = (m : Int) * 1000000 - l := ⟨_, rfl⟩
      rw [← hZ] at y2 mo
      have M3 := Lib.hid m3
      have MO := Lib.hid mo
      clear m3 mo hM hZ e1 hbad hno eB hm1 hl hu hr
      go_enter Try.func15, Try.ntmps15
      go_wp2_with fail
      refine ch.mono ?_
      rintro e W1 ⟨rfl, q, hW⟩
      have k0 := K0.out q
      have k1 := K1.out q
      have k2 := K2.out q
      rw [← hW] at k0 k1 k2
      have HW := Lib.hid hW
      clear ch hW
      go_upto_region 5 with (fail)
      go_quiet (first
        | (go_at_call 25; refine Calls.quiet_of_same ((M3.out _).mono fun _ _ h => ⟨h.1, h.2.symm⟩))
        | (go_at_call 29; refine Calls.quiet_of_same ((MO.out _).mono fun _ _ h => ⟨h.1, h.2.symm⟩)))
      go_wp2_with fail
      go_ret
      exact ⟨rfl, _, by rw [HW.out, World.drewN_drewN]⟩
  · rw [eB] at ch
    have e1 : waitN r u l n = 0 := by unfold waitN; rw [if_pos (by unfold takeB at eB; exact of_decide_eq_true eB)]
    rw [e1]
    clear e1 eB
    go_enter Try.func15, Try.ntmps15
    go_wp2_with fail
    refine ch.mono ?_
    rintro e W1 ⟨rfl, q, rfl⟩
    clear ch
    go_wp2_with fail
    go_ret
    exact ⟨rfl, _, rfl⟩
end Go.Proofs.Ytiacdjnaefnhpaa
