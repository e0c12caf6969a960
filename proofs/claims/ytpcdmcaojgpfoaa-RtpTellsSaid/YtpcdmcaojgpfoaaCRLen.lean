/- Contracts: rtp.length, Right, Size. -/
import Derived.Test.YtpcdmcaojgpfoaaCR3Right
namespace Go.Proofs.Ytpcdmcaojgpfoaa
open Go.RowKit
set_option linter.unusedVariables false
set_option linter.unusedSimpArgs false
set_option maxRecDepth 20000

/-- What rtp.length reckons. -/
def Pkt.sizeD (p : Pkt) : Nat := 12 + 4 * p.csrc.length + p.ext.length + p.pay.length + if p.prof = 0 then 0 else 4
theorem rtp_length (p : Pkt) (A1 : Option Addr) (c1 : Nat) (A2 : Option Addr) (c2 : Nat) (A3 : Option Addr) (c3 : Nat) (w : World) (hp : p.In) :
    Calls Try.prog 58 #[p.val A1 c1 A2 c2 A3 c3] w fun e w' => e = .returned (.int .i64 (p.sizeD : Nat)) ∧ Below w.heap.size w w' := by
  obtain ⟨m, ty, seq, time, ssrc, csrc, prof, ext, pay⟩ := p
  simp only [Pkt.val, Pkt.sizeD]
  have h1 := hp.csrc
  have h2 := hp.ext
  have h3 := hp.pay
  have hb : Below w.heap.size w (w.alloc (.cells #[.bool m, .int .i64 ty, .int .u16 (seq : Int), .int .u32 (time : Int), .int .u32 (ssrc : Int), .slice A1 csrc.length c1, .int .u16 (prof : Int), .slice A2 ext.length c2, .slice A3 pay.length c3] 28)) := (Below.refl _ w).alloc (Nat.le_refl _) _
  simp only at h1 h2 h3
  go_enter Try.func58, Try.ntmps58
  by_cases hpr : prof = 0
  · subst hpr
    go_wp2
    go_ret
    exact ⟨rfl, hb⟩
  · have hpr' : ((prof : Int) != 0) = true := by simp; omega
    go_wp2
    go_ret
    refine ⟨congrArg (fun b => Ending.returned (Value.int .i64 b)) ?_, hb⟩
    first | omega | (simp only [if_neg hpr]; omega)
theorem Pkt.sizeD_eq (p : Pkt) (h : p.arg = false) : p.sizeD = p.size := by
  simp only [Pkt.arg, Bool.or_eq_false_iff, Bool.and_eq_false_iff, decide_eq_false_iff_not] at h
  unfold Pkt.sizeD Pkt.size
  by_cases hp : p.prof = 0
  · rw [if_pos hp, if_pos hp]
    rcases h.2.2.2.2 with h' | h'
    · exact absurd hp h'
    · omega
  · rw [if_neg hp, if_neg hp]; omega
set_option maxHeartbeats 2000000 in
theorem rtp_right (p : Pkt) (A1 : Option Addr) (c1 : Nat) (A2 : Option Addr) (c2 : Nat) (A3 : Option Addr) (c3 : Nat) (w : World) (hp : p.In) :
    Calls Try.prog 37 #[p.val A1 c1 A2 c2 A3 c3] w fun e w' => e = .returned (.int .i64 p.right) ∧ Below w.heap.size w w' := by
  have hsz := fun W => rtp_length p A1 c1 A2 c2 A3 c3 W hp
  have hb : Below w.heap.size w (w.alloc (.cells #[.bool p.m, .int .i64 p.ty, .int .u16 (p.seq : Int), .int .u32 (p.time : Int), .int .u32 (p.ssrc : Int), .slice A1 p.csrc.length c1, .int .u16 (p.prof : Int), .slice A2 p.ext.length c2, .slice A3 p.pay.length c3] 28)) := (Below.refl _ w).alloc (Nat.le_refl _) _
  simp only [Pkt.val] at hsz ⊢
  have h1 := hp.csrc
  have h2 := hp.ext
  have h3 := hp.pay
  have ra := fun (h : p.arg = true) => Pkt.right_arg h
  have rs := fun (h : p.arg = false) => Pkt.right_size h
  have rd := fun (h : p.arg = false) => Pkt.sizeD_eq p h
  go_enter Try.func37, Try.ntmps37
  have e0 : p.arg = (decide (p.ty < 0) || (decide (127 < p.ty) || (decide (15 < p.csrc.length) || (decide (p.ext.length % 4 ≠ 0) || (decide (p.prof = 0) && decide (0 < p.ext.length)))))) := rfl
  revert ra rs rd
  rw [e0]
  intro ra rs rd
  clear e0
  by_cases a1 : p.ty < 0
  · have ra' := ra (by simp [a1])
    have ra'' := Lib.hid ra'
    clear ra rs rd ra'
    go_wp2_with fail
    go_ret
    exact ⟨by rw [ra''.out]; first | done | rfl, hb⟩
  by_cases a2 : 127 < p.ty
  · have ra' := Lib.hid (ra (by simp [a2]))
    clear ra rs rd
    go_wp2_with fail
    go_ret
    exact ⟨by rw [ra'.out]; first | done | rfl, hb⟩
  by_cases a3 : 15 < p.csrc.length
  · have ra' := Lib.hid (ra (by simp [a3]))
    have a3' : (15 : Int) < (p.csrc.length : Int) := by omega
    clear ra rs rd
    go_wp2_with fail
    go_ret
    exact ⟨by rw [ra'.out]; first | done | rfl, hb⟩
  have a3' : ¬ (15 : Int) < (p.csrc.length : Int) := by omega
  by_cases a4 : p.ext.length % 4 = 0
  · have a4' : ((p.ext.length : Int) % 4 != 0) = false := by simp; omega
    by_cases a5 : p.prof = 0
    · have a5' : ((p.prof : Int) == 0) = true := by simp; omega
      by_cases a6 : 0 < p.ext.length
      · have ra' := Lib.hid (ra (by simp [a5, a6]))
        have a6' : (0 : Int) < (p.ext.length : Int) := by omega
        clear ra rs rd a5
        go_wp2_with fail
        go_ret
        exact ⟨by rw [ra'.out]; first | done | rfl, hb⟩
      · have rs' := Lib.hid (rs (by simp [a1, a2, a3, a4, a5, a6]))
        have rd' := Lib.hid (rd (by simp [a1, a2, a3, a4, a5, a6]))
        have a6' : ¬ (0 : Int) < (p.ext.length : Int) := by omega
        clear ra rs rd a5 a4
        go_wp2_with fail
        refine (hsz _).mono ?_
        rintro e w' ⟨rfl, hb2⟩
        have hb3 := hb.trans (hb2.mono hb.size)
        clear hb2
        by_cases a7 : 1500 < p.size
        · have a7' : (1500 : Int) < ((p.sizeD : Nat) : Int) := by have := rd'.out; omega
          go_wp2_with fail
          go_ret
          exact ⟨by rw [rs'.out, if_pos a7]; first | done | rfl, hb3⟩
        · have a7' : ¬ (1500 : Int) < ((p.sizeD : Nat) : Int) := by have := rd'.out; omega
          go_wp2_with fail
          go_ret
          exact ⟨by rw [rs'.out, if_neg a7]; first | done | rfl, hb3⟩
    · have a5' : ((p.prof : Int) == 0) = false := by simp; omega
      have rs' := Lib.hid (rs (by simp [a1, a2, a3, a4, a5]))
      have rd' := Lib.hid (rd (by simp [a1, a2, a3, a4, a5]))
      clear ra rs rd a5 a4
      go_wp2_with fail
      refine (hsz _).mono ?_
      rintro e w' ⟨rfl, hb2⟩
      have hb3 := hb.trans (hb2.mono hb.size)
      clear hb2
      by_cases a7 : 1500 < p.size
      · have a7' : (1500 : Int) < ((p.sizeD : Nat) : Int) := by have := rd'.out; omega
        go_wp2_with fail
        go_ret
        exact ⟨by rw [rs'.out, if_pos a7]; first | done | rfl, hb3⟩
      · have a7' : ¬ (1500 : Int) < ((p.sizeD : Nat) : Int) := by have := rd'.out; omega
        go_wp2_with fail
        go_ret
        exact ⟨by rw [rs'.out, if_neg a7]; first | done | rfl, hb3⟩
  · have ra' := Lib.hid (ra (by simp [a4]))
    have a4' : ((p.ext.length : Int) % 4 != 0) = true := by simp; omega
    clear ra rs rd
    go_wp2_with fail
    go_ret
    exact ⟨by rw [ra'.out]; first | done | rfl, hb⟩
theorem rtp_size (p : Pkt) (A1 : Option Addr) (c1 : Nat) (A2 : Option Addr) (c2 : Nat) (A3 : Option Addr) (c3 : Nat) (w : World) (hp : p.In) :
    Calls Try.prog 38 #[p.val A1 c1 A2 c2 A3 c3] w fun e w' => e = .returned (.int .i64 (if p.right = 0 then p.size else 0 : Nat)) ∧ Below w.heap.size w w' := by
  have hrt := fun W => rtp_right p A1 c1 A2 c2 A3 c3 W hp
  have hsz := fun W => rtp_length p A1 c1 A2 c2 A3 c3 W hp
  have hb : Below w.heap.size w (w.alloc (.cells #[.bool p.m, .int .i64 p.ty, .int .u16 (p.seq : Int), .int .u32 (p.time : Int), .int .u32 (p.ssrc : Int), .slice A1 p.csrc.length c1, .int .u16 (p.prof : Int), .slice A2 p.ext.length c2, .slice A3 p.pay.length c3] 28)) := (Below.refl _ w).alloc (Nat.le_refl _) _
  have hZ : Blk (w.alloc (.cells #[.bool p.m, .int .i64 p.ty, .int .u16 (p.seq : Int), .int .u32 (p.time : Int), .int .u32 (p.ssrc : Int), .slice A1 p.csrc.length c1, .int .u16 (p.prof : Int), .slice A2 p.ext.length c2, .slice A3 p.pay.length c3] 28)) w.heap.size 28 #[.bool p.m, .int .i64 p.ty, .int .u16 (p.seq : Int), .int .u32 (p.time : Int), .int .u32 (p.ssrc : Int), .slice A1 p.csrc.length c1, .int .u16 (p.prof : Int), .slice A2 p.ext.length c2, .slice A3 p.pay.length c3] := Blk.new _ _ _
  have hlt := hZ.lt
  simp only [Pkt.val] at hsz hrt ⊢
  go_enter Try.func38, Try.ntmps38
  go_wp2_with fail
  refine (hrt _).mono ?_
  rintro e w' ⟨rfl, hb2⟩
  have hb3 := hb.trans (hb2.mono hb.size)
  have hZ2 := hZ.below hb2 hlt
  clear hb2 hb hZ
  have k0 := hZ2.cell 0
  have k1 := hZ2.cell 1
  have k2 := hZ2.cell 2
  have k3 := hZ2.cell 3
  have k4 := hZ2.cell 4
  have k5 := hZ2.cell 5
  have k6 := hZ2.cell 6
  have k7 := hZ2.cell 7
  have k8 := hZ2.cell 8
  simp only [List.getElem?_toArray, List.getElem?_cons_zero, List.getElem?_cons_succ] at k0 k1 k2 k3 k4 k5 k6 k7 k8
  by_cases h0 : p.right = 0
  · have g : (p.right != 0) = false := by simp [h0]
    have hd : p.sizeD = p.size := Pkt.sizeD_eq p (by
      cases ha : p.arg with
      | false => rfl
      | true => have := Pkt.right_arg ha; omega)
    have hd' := Lib.hid hd
    have h0' := Lib.hid h0
    clear hd h0
    go_wp2_with fail
    refine (hsz _).mono ?_
    rintro e w'' ⟨rfl, hb4⟩
    go_wp2_with fail
    go_ret
    refine ⟨congrArg (fun b => Ending.returned (Value.int .i64 b)) (?_ : ((p.sizeD : Nat) : Int) = _), hb3.trans (hb4.mono hb3.size)⟩
    first | rw [hd'.out] | rw [if_pos h0'.out, hd'.out]
  · have g : (p.right != 0) = true := by simp [h0]
    go_wp2_with fail
    go_ret
    refine ⟨congrArg (fun b => Ending.returned (Value.int .i64 b)) (?_ : (0 : Int) = _), hb3⟩
    first | rfl | (rw [if_neg h0]; rfl)
end Go.Proofs.Ytpcdmcaojgpfoaa
