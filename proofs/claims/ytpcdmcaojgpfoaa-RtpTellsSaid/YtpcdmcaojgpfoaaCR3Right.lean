/- Contracts: limelightref3.size, Right. -/
import Derived.Test.YtpcdmcaojgpfoaaPkt
namespace Go.Proofs.Ytpcdmcaojgpfoaa
open Go.RowKit
set_option linter.unusedVariables false
set_option linter.unusedSimpArgs false
set_option maxRecDepth 20000

theorem ref_size (p : Pkt) (A1 : Option Addr) (c1 : Nat) (A2 : Option Addr) (c2 : Nat) (A3 : Option Addr) (c3 : Nat) (w : World) (hp : p.In) :
    Calls Try.prog 55 #[p.val A1 c1 A2 c2 A3 c3] w fun e w' => e = .returned (.int .i64 (p.size : Nat)) ∧ Below w.heap.size w w' := by
  obtain ⟨m, ty, seq, time, ssrc, csrc, prof, ext, pay⟩ := p
  simp only [Pkt.val, Pkt.size]
  have h1 := hp.csrc
  have h2 := hp.ext
  have h3 := hp.pay
  have hb : Below w.heap.size w (w.alloc (.cells #[.bool m, .int .i64 ty, .int .u16 (seq : Int), .int .u32 (time : Int), .int .u32 (ssrc : Int), .slice A1 csrc.length c1, .int .u16 (prof : Int), .slice A2 ext.length c2, .slice A3 pay.length c3] 28)) := (Below.refl _ w).alloc (Nat.le_refl _) _
  simp only at h1 h2 h3
  go_enter Try.func55, Try.ntmps55
  by_cases hpr : prof = 0
  · subst hpr
    go_wp2
    go_ret
    exact ⟨rfl, hb⟩
  · have hpr' : ((prof : Int) == 0) = false := by simp; omega
    go_wp2
    go_ret
    refine ⟨congrArg (fun b => Ending.returned (Value.int .i64 b)) ?_, hb⟩
    first | omega | (simp only [if_neg hpr]; omega)
theorem Pkt.right_arg {p : Pkt} (h : p.arg = true) : p.right = 1 := if_pos h
theorem Pkt.right_size {p : Pkt} (h : p.arg = false) : p.right = if 1500 < p.size then 3 else 0 := by
  unfold Pkt.right
  rw [h]
  rfl
set_option maxHeartbeats 2000000 in
theorem ref_right (p : Pkt) (A1 : Option Addr) (c1 : Nat) (A2 : Option Addr) (c2 : Nat) (A3 : Option Addr) (c3 : Nat) (w : World) (hp : p.In) :
    Calls Try.prog 34 #[p.val A1 c1 A2 c2 A3 c3] w fun e w' => e = .returned (.int .i64 p.right) ∧ Below w.heap.size w w' := by
  have hsz := fun W => ref_size p A1 c1 A2 c2 A3 c3 W hp
  have hb : Below w.heap.size w (w.alloc (.cells #[.bool p.m, .int .i64 p.ty, .int .u16 (p.seq : Int), .int .u32 (p.time : Int), .int .u32 (p.ssrc : Int), .slice A1 p.csrc.length c1, .int .u16 (p.prof : Int), .slice A2 p.ext.length c2, .slice A3 p.pay.length c3] 28)) := (Below.refl _ w).alloc (Nat.le_refl _) _
  simp only [Pkt.val] at hsz ⊢
  have h1 := hp.csrc
  have h2 := hp.ext
  have h3 := hp.pay
  have ra := fun (h : p.arg = true) => Pkt.right_arg h
  have rs := fun (h : p.arg = false) => Pkt.right_size h
  go_enter Try.func34, Try.ntmps34
  have e0 : p.arg = (decide (p.ty < 0) || (decide (127 < p.ty) || (decide (15 < p.csrc.length) || (decide (p.ext.length % 4 ≠ 0) || (decide (p.prof = 0) && decide (0 < p.ext.length)))))) := rfl
  revert ra rs
  rw [e0]
  intro ra rs
  clear e0
  by_cases a1 : p.ty < 0
  · have ra' := ra (by simp [a1])
    clear ra rs
    go_wp2_with fail
    go_ret
    exact ⟨by first | rfl | (rw [ra']; rfl), hb⟩
  by_cases a2 : 127 < p.ty
  · have ra' := ra (by simp [a2])
    clear ra rs
    go_wp2_with fail
    go_ret
    exact ⟨by first | rfl | (rw [ra']; rfl), hb⟩
  by_cases a3 : 15 < p.csrc.length
  · have ra' := ra (by simp [a3])
    have a3' : (15 : Int) < (p.csrc.length : Int) := by omega
    clear ra rs
    go_wp2_with fail
    go_ret
    exact ⟨by first | rfl | (rw [ra']; rfl), hb⟩
  have a3' : ¬ (15 : Int) < (p.csrc.length : Int) := by omega
  by_cases a4 : p.ext.length % 4 = 0
  · have a4' : ((p.ext.length : Int) % 4 != 0) = false := by simp; omega
    by_cases a5 : p.prof = 0
    · have a5' : ((p.prof : Int) == 0) = true := by simp; omega
      by_cases a6 : 0 < p.ext.length
      · have ra' := ra (by simp [a5, a6])
        have a6' : (0 : Int) < (p.ext.length : Int) := by omega
        clear ra rs a5
        go_wp2_with fail
        go_ret
        exact ⟨by first | rfl | (rw [ra']; rfl), hb⟩
      · have rs' := rs (by simp [a1, a2, a3, a4, a6])
        have a6' : ¬ (0 : Int) < (p.ext.length : Int) := by omega
        clear ra rs a5 a6
        go_wp2_with fail
        refine (hsz _).mono ?_
        rintro e w1 ⟨rfl, b1⟩
        have b1' := hb.trans (b1.mono hb.size)
        clear hsz b1 hb
        by_cases a7 : 1500 < p.size
        · rw [if_pos a7] at rs'
          have a7' : (1500 : Int) < (p.size : Int) := by omega
          go_wp2_with fail
          go_ret
          exact ⟨by first | rfl | (rw [rs']; rfl), b1'⟩
        · rw [if_neg a7] at rs'
          have a7' : ¬ (1500 : Int) < (p.size : Int) := by omega
          go_wp2_with fail
          go_ret
          exact ⟨by first | rfl | (rw [rs']; rfl), b1'⟩
    · have a5' : ((p.prof : Int) == 0) = false := by simp; omega
      have rs' := rs (by simp [a1, a2, a3, a4, a5])
      clear ra rs
      go_wp2_with fail
      refine (hsz _).mono ?_
      rintro e w1 ⟨rfl, b1⟩
      have b1' := hb.trans (b1.mono hb.size)
      clear hsz b1 hb
      by_cases a7 : 1500 < p.size
      · rw [if_pos a7] at rs'
        have a7' : (1500 : Int) < (p.size : Int) := by omega
        go_wp2_with fail
        go_ret
        exact ⟨by first | rfl | (rw [rs']; rfl), b1'⟩
      · rw [if_neg a7] at rs'
        have a7' : ¬ (1500 : Int) < (p.size : Int) := by omega
        go_wp2_with fail
        go_ret
        exact ⟨by first | rfl | (rw [rs']; rfl), b1'⟩
  · have ra' := ra (by simp [a4])
    have a4' : ((p.ext.length : Int) % 4 != 0) = true := by simp; omega
    clear ra rs
    go_wp2_with fail
    go_ret
    exact ⟨by first | rfl | (rw [ra']; rfl), hb⟩
end Go.Proofs.Ytpcdmcaojgpfoaa
