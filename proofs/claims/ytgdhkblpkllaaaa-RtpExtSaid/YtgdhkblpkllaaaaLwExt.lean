/- The walk of layer 3's law RtpExt. -/
import Derived.Test.YtgdhkblpkllaaaaLwStart
import Derived.Test.YtgdhkblpkllaaaaRegL
namespace Go.Proofs.Ytgdhkblpkllaaaa
open Go.RowKit
set_option linter.unusedVariables false
set_option linter.unusedSimpArgs false

set_option maxRecDepth 100000 in
set_option maxHeartbeats 2000000 in
theorem rtpExt_walk (A : Option Addr) (n c : Nat) (A9 : Option Addr) (n9 c9 : Nat) (l9 : List UInt8) (pf : Int) (w : World) (h : RI w w.heap.size A n c) (hn : n ≤ 281474976710656) (h9 : R8 w w.heap.size A9 n9 c9 l9) (hn9 : n9 ≤ 140737488351232) (hpf : (Lit.int .u16 pf).wf = true) :
    Calls Try.prog 6 #[.slice A n c, .slice A9 n9 c9, .int .u16 pf] w (Yes w) := by
  have hT := tape_at h hn
  have b0 : Below w.heap.size w (w.alloc (.cells #[.slice A n c, .int .i64 0] 32)) := (Below.refl _ w).alloc (Nat.le_refl _) _
  clear h
  go_enter Try.func6, Try.ntmps6
  go_wp2_with fail
  refine (tape_rtp _ _ hT).mono ?_
  rintro e w1 ⟨p, A1, c1, A2, c2, A3, c3, rfl, hI, hr, t1, t2, t3, hm⟩
  have b1 := b0.trans hm.below
  have h9 := h9.on b1
  clear hT b0 hm
  simp only [Pkt.val]
  have ho := p.ok_of hr
  have hx : ∃ X : Nat, X ≤ 32767 ∧ bits BinOp.and .u16 pf 32767 = (X : Int) := by
    have h0 : 0 ≤ pf ∧ pf ≤ 65535 := by simpa [Lit.wf, IntKind.min, IntKind.max, IntKind.signed, IntKind.bits] using hpf
    obtain ⟨a, rfl⟩ := Int.eq_ofNat_of_zero_le h0.1
    exact ⟨a &&& 32767, Nat.and_le_right, u16_and_nat a 32767 (by omega) (by omega)⟩
  obtain ⟨X, hX, hXe⟩ := hx
  have hkk : ∃ k : Nat, k ≤ 200 ∧ k ≤ n9 ∧ k % 4 = 0 ∧ k = min n9 200 / 4 * 4 := ⟨min n9 200 / 4 * 4, by omega, by omega, by omega, rfl⟩
  obtain ⟨k, hk1, hk2, hk4, hke⟩ := hkk
  go_upto_region 5 with (fail)
  have s2 : (w1.alloc (.cells #[.bool p.m, .int .i64 p.ty, .int .u16 (p.seq : Int), .int .u32 (p.time : Int), .int .u32 (p.ssrc : Int), .slice A1 p.csrc.length c1, .int .u16 0, .slice none 0 0, .slice A3 p.pay.length c3] 27)).heap.size = w1.heap.size + 1 := by simp
  have bx := (Below.refl _ w1).alloc (Nat.le_refl _) (.cells #[.bool p.m, .int .i64 p.ty, .int .u16 (p.seq : Int), .int .u32 (p.time : Int), .int .u32 (p.ssrc : Int), .slice A1 p.csrc.length c1, .int .u16 0, .slice none 0 0, .slice A3 p.pay.length c3] 27)
  have by_ := (Below.refl _ (w1.alloc (.cells #[.bool p.m, .int .i64 p.ty, .int .u16 (p.seq : Int), .int .u32 (p.time : Int), .int .u32 (p.ssrc : Int), .slice A1 p.csrc.length c1, .int .u16 0, .slice none 0 0, .slice A3 p.pay.length c3] 27))).alloc (Nat.le_refl _) (.cells #[.bool p.m, .int .i64 p.ty, .int .u16 (p.seq : Int), .int .u32 (p.time : Int), .int .u32 (p.ssrc : Int), .slice A1 p.csrc.length c1, .int .u16 (1 + (X : Int)), .slice none 0 0, .slice A3 p.pay.length c3] 27)
  have hP := (Blk.new w1 27 #[.bool p.m, .int .i64 p.ty, .int .u16 (p.seq : Int), .int .u32 (p.time : Int), .int .u32 (p.ssrc : Int), .slice A1 p.csrc.length c1, .int .u16 0, .slice none 0 0, .slice A3 p.pay.length c3]).alloc (.cells #[.bool p.m, .int .i64 p.ty, .int .u16 (p.seq : Int), .int .u32 (p.time : Int), .int .u32 (p.ssrc : Int), .slice A1 p.csrc.length c1, .int .u16 (1 + (X : Int)), .slice none 0 0, .slice A3 p.pay.length c3] 27)
  have hQ := Blk.new (w1.alloc (.cells #[.bool p.m, .int .i64 p.ty, .int .u16 (p.seq : Int), .int .u32 (p.time : Int), .int .u32 (p.ssrc : Int), .slice A1 p.csrc.length c1, .int .u16 0, .slice none 0 0, .slice A3 p.pay.length c3] 27)) 27 #[.bool p.m, .int .i64 p.ty, .int .u16 (p.seq : Int), .int .u32 (p.time : Int), .int .u32 (p.ssrc : Int), .slice A1 p.csrc.length c1, .int .u16 (1 + (X : Int)), .slice none 0 0, .slice A3 p.pay.length c3]
  rw [s2] at hQ
  have bz := bx.trans (by_.mono bx.size)
  have b2 := b1.trans (bz.mono b1.size)
  have hb1g := b1.size
  have h9 := h9.on bz
  have hI := hI.on bz
  clear bz bx by_ b1 s2
  generalize (w1.alloc (.cells #[.bool p.m, .int .i64 p.ty, .int .u16 (p.seq : Int), .int .u32 (p.time : Int), .int .u32 (p.ssrc : Int), .slice A1 p.csrc.length c1, .int .u16 0, .slice none 0 0, .slice A3 p.pay.length c3] 27)).alloc (.cells #[.bool p.m, .int .i64 p.ty, .int .u16 (p.seq : Int), .int .u32 (p.time : Int), .int .u32 (p.ssrc : Int), .slice A1 p.csrc.length c1, .int .u16 (1 + (X : Int)), .slice none 0 0, .slice A3 p.pay.length c3] 27) = W2 at hP hQ b2 hI h9 ⊢
  have hPg := Lib.hid hb1g
  clear hb1g
  generalize w1.heap.size = P at hP hQ hPg ⊢
  have hQl := hQ.lt
  have hQlt := Lib.hid hQl
  obtain ⟨j0, j1, j2, j3, j4, j5, j6, j7, j8⟩ := blk9 hQ
  have z7 := hQ.frozen 7
  have hcutE : ∀ W : World, (Instr.slice 25 (.slice A9 n9 c9) none (some (.int .i64 (min (n9 : Int) 200 / 4 * 4))) none).run Try.prog W = .ok (.slice A9 k c9) W := by
    intro W
    rw [show min (n9 : Int) 200 / 4 * 4 = (k : Int) by omega]
    exact run_cut_hi W A9 n9 c9 k (by have := h9.2.1; omega)
  have hkeh := Lib.hid hke
  clear hke
  go_upto_region 6 with (fail)
  have hQ := hQ.set_ 7 (.slice A9 k c9)
  simp only [List.setIfInBounds_toArray, List.set_cons_succ, List.set_cons_zero] at hQ
  have hP := hP.far (p := ⟨P + 1, 7, none⟩) (show P ≠ P + 1 by omega) (.slice A9 k c9)
  have j7 : W2.cell? ⟨P + 1, 7, none⟩ = some (.slice none 0 0) := j7
  have hs3 := size_setCell W2 ⟨P + 1, 7, none⟩ (.slice A9 k c9)
  have hcs := hI.csrc.setNot j7 (by simp) (.slice A9 k c9)
  have hpy := hI.pay.setNot j7 (by simp) (.slice A9 k c9)
  have h9k := (h9.take_ k hk2).setNot j7 (by simp) (.slice A9 k c9)
  have hPge : w.heap.size ≤ P + 1 := by have := hPg.out; omega
  have b3 := Below.setCell b2 (p := ⟨P + 1, 7, none⟩) hPge (.slice A9 k c9)
  rw [← hs3] at hcs hpy h9k
  have hk := hI.kinds
  clear j0 j1 j2 j3 j4 j5 j6 j7 j8 z7 hcutE hs3 b2 hI h9
  generalize W2.setCell ⟨P + 1, 7, none⟩ (.slice A9 k c9) = W3 at hP hQ b3 hcs hpy h9k ⊢
  have hlk : (l9.take k).length = k := h9k.1
  -- the two packets
  obtain ⟨u, hu⟩ : ∃ u : Pkt, u = { p with prof := 0, ext := [] } := ⟨_, rfl⟩
  obtain ⟨q, hq⟩ : ∃ q : Pkt, q = { p with prof := 1 + X, ext := l9.take k } := ⟨_, rfl⟩
  have eu : ∀ (a1 : Option Addr) (x1 : Nat) (a3 : Option Addr) (x3 : Nat), u.val a1 x1 none 0 a3 x3 = .agg #[.bool p.m, .int .i64 p.ty, .int .u16 (p.seq : Int), .int .u32 (p.time : Int), .int .u32 (p.ssrc : Int), .slice a1 p.csrc.length x1, .int .u16 0, .slice none 0 0, .slice a3 p.pay.length x3] := by intro a1 x1 a3 x3; rw [hu]; rfl
  have eu2 : ∀ (a1 : Option Addr) (x1 : Nat) (a2 : Option Addr) (x2 : Nat) (a3 : Option Addr) (x3 : Nat), u.val a1 x1 a2 x2 a3 x3 = .agg #[.bool p.m, .int .i64 p.ty, .int .u16 (p.seq : Int), .int .u32 (p.time : Int), .int .u32 (p.ssrc : Int), .slice a1 p.csrc.length x1, .int .u16 0, .slice a2 0 x2, .slice a3 p.pay.length x3] := by intro a1 x1 a2 x2 a3 x3; rw [hu]; rfl
  have eq : ∀ (a1 : Option Addr) (x1 : Nat) (a2 : Option Addr) (x2 : Nat) (a3 : Option Addr) (x3 : Nat), q.val a1 x1 a2 x2 a3 x3 = .agg #[.bool p.m, .int .i64 p.ty, .int .u16 (p.seq : Int), .int .u32 (p.time : Int), .int .u32 (p.ssrc : Int), .slice a1 p.csrc.length x1, .int .u16 (1 + (X : Int)), .slice a2 k x2, .slice a3 p.pay.length x3] := by intro a1 x1 a2 x2 a3 x3; rw [hq]; simp [Pkt.val, hlk]
  have hIu : IsP W3 W3.heap.size A1 c1 none 0 A3 c3 u := by rw [hu]; exact ⟨hcs, R8.nil _ _ _ _, hpy, ⟨hk.ty, hk.seq, hk.time, hk.ssrc, by simp, hk.csrc, by simp, hk.pay⟩⟩
  have hIq : IsP W3 W3.heap.size A1 c1 A9 c9 A3 c3 q := by rw [hq]; exact ⟨hcs, by simp only; rw [hlk]; exact h9k, hpy, ⟨hk.ty, hk.seq, hk.time, hk.ssrc, by simp only; omega, hk.csrc, by simp only; omega, hk.pay⟩⟩
  have su : u.size = 12 + 4 * p.csrc.length + p.pay.length := by rw [hu]; simp [Pkt.size]
  have sq : q.size = u.size + 4 + k := by rw [su, hq]; unfold Pkt.size; simp only; rw [if_neg (by omega), hlk]; omega
  have ou : u.Ok := by rw [hu] at su ⊢; exact ⟨ho.t0, ho.t1, ho.c, by simp, by simp, by omega⟩
  have oq : q.Ok := by rw [hq] at sq ⊢; exact ⟨ho.t0, ho.t1, ho.c, by simp only; omega, by simp only; intro h; omega, by omega⟩
  have ru := Lib.hid (u.ok_right ou)
  have rq := Lib.hid (q.ok_right oq)
  have lu : u.bytes.length = u.size := u.bytes_len ou.pe
  have lq : q.bytes.length = u.size + 4 + k := by rw [q.bytes_len oq.pe, sq]
  obtain ⟨L, hL⟩ : ∃ L, u.size = L := ⟨_, rfl⟩
  have hL12 : 12 ≤ L := by omega
  have hL9 : L ≤ 200 := by omega
  have hF : ∃ F : Nat, 128 ≤ F ∧ F ≤ 143 ∧ bt u.bytes 0 = F ∧ bt q.bytes 0 = F + 16 := by
    have := ho.c
    refine ⟨128 + p.csrc.length, by omega, by omega, ?_, ?_⟩
    · rw [bt_bytes u ou, hu]; simp [fb0]
    · rw [bt_bytes q oq, hq]; unfold fb0; simp only; rw [if_neg (by omega)]
  obtain ⟨F, hF1, hF2, hFu, hFq⟩ := hF
  have hFuh := Lib.hid hFu
  have hFqh := Lib.hid hFq
  have zsq : q.size = L + 4 + k := by omega
  have ssu : samePk u u = true := samePk_refl u
  rw [hL] at lu lq
  have szq := Lib.hid (show (if q.right = 0 then q.size else 0) = L + 4 + k by rw [if_pos rq.out, zsq])
  have orF : bits BinOp.or .u8 (F : Int) 16 = ((F + 16 : Nat) : Int) := by
    have := all256 (f := fun m => decide (128 ≤ m → m ≤ 143 → bits BinOp.or .u8 (m : Int) 16 = ((m + 16 : Nat) : Int))) (by kernel_rfl) (n := F) (by omega)
    exact (of_decide_eq_true this) hF1 hF2
  have oRF := Lib.hid orF
  have hx2 : q = q := rfl
  have hxu : { q with prof := 0, ext := [] } = u := by rw [hq, hu]
  have luh := Lib.hid lu
  have lqh := Lib.hid lq
  clear hu hq su sq zsq ho ou oq t1 t2 t3 hr hL hFu hFq orF hcs hpy h9k hk lu lq hlk
  obtain ⟨k0, k1, k2, k3, k4, k5, k6, k7, k8⟩ := blk9 hP
  go_wp2_with fail
  clear k0 k1 k2 k3 k4 k5 k6 k7 k8
  refine (show Calls _ _ #[.agg #[.bool p.m, .int .i64 p.ty, .int .u16 (p.seq : Int), .int .u32 (p.time : Int), .int .u32 (p.ssrc : Int), .slice A1 p.csrc.length c1, .int .u16 0, .slice none 0 0, .slice A3 p.pay.length c3]] _ _ from (eu A1 c1 A3 c3) ▸ rtp_bytes u A1 c1 none 0 A3 c3 W3 hIu).mono ?_
  rintro e w4 ⟨hy, _⟩
  obtain ⟨v4, rfl, ho4, bz⟩ := hy ru.out
  obtain ⟨A4, c4, rfl, r4⟩ := ho4.r8
  have b4 := b3.trans (bz.mono b3.size)
  have hIu := hIu.on bz
  have hIq := hIq.on bz
  have hQ := hQ.below bz hQ.lt
  clear hy bz ho4 b3 hP
  rw [luh.out] at r4 ⊢
  obtain ⟨k0, k1, k2, k3, k4, k5, k6, k7, k8⟩ := blk9 hQ
  go_wp2_with fail
  clear k0 k1 k2 k3 k4 k5 k6 k7 k8
  refine (show Calls _ _ #[.agg #[.bool p.m, .int .i64 p.ty, .int .u16 (p.seq : Int), .int .u32 (p.time : Int), .int .u32 (p.ssrc : Int), .slice A1 p.csrc.length c1, .int .u16 (1 + (X : Int)), .slice A9 k c9, .slice A3 p.pay.length c3]] _ _ from (eq A1 c1 A9 c9 A3 c3) ▸ rtp_bytes q A1 c1 A9 c9 A3 c3 w4 hIq).mono ?_
  rintro e w5 ⟨hy, _⟩
  obtain ⟨v5, rfl, ho5, bz⟩ := hy rq.out
  obtain ⟨A5, c5, rfl, r5⟩ := ho5.r8
  have b5 := b4.trans (bz.mono b4.size)
  have hIu := hIu.on bz
  have hIq := hIq.on bz
  have hQ := hQ.below bz hQ.lt
  have r4 := r4.on bz
  clear hy bz ho5 b4
  rw [lqh.out] at r5 ⊢
  go_wp2_with fail
  refine (rtp_read_bytes A5 (L + 4 + k) c5 q _ (by exact_mod_cast r5) (by omega) hIq.kinds rq.out hIq.csrc.2.2.1).mono ?_
  rintro e w6 ⟨B1, d1, B2, d2, B3, d3, rfl, hJ, bz⟩
  rw [eq]
  have b6 := b5.trans (bz.mono b5.size)
  have hIu := hIu.on bz
  have hIq := hIq.on bz
  have hQ := hQ.below bz hQ.lt
  have r4 := r4.on bz
  have r5 := r5.on bz
  clear bz b5
  have hq6 := Lib.hid hQ.lt
  go_upto_region 9 with (fail)
  have hX0 := Blk.new w6 27 #[.bool p.m, .int .i64 p.ty, .int .u16 (p.seq : Int), .int .u32 (p.time : Int), .int .u32 (p.ssrc : Int), .slice B1 p.csrc.length d1, .int .u16 (1 + (X : Int)), .slice B2 k d2, .slice B3 p.pay.length d3]
  have bz := (Below.refl _ w6).alloc (Nat.le_refl _) (.cells #[.bool p.m, .int .i64 p.ty, .int .u16 (p.seq : Int), .int .u32 (p.time : Int), .int .u32 (p.ssrc : Int), .slice B1 p.csrc.length d1, .int .u16 (1 + (X : Int)), .slice B2 k d2, .slice B3 p.pay.length d3] 27)
  have b7 := b6.trans (bz.mono b6.size)
  have hXge := Lib.hid b6.size
  have hIu := hIu.on bz
  have hIq := hIq.on bz
  have hQ := hQ.below bz hQ.lt
  have r4 := r4.on bz
  have r5 := r5.on bz
  have hJ := hJ.on bz
  have hQR := Lib.hid (show P + 1 < w6.heap.size from hq6.out)
  clear bz b6
  generalize w6.alloc (.cells #[.bool p.m, .int .i64 p.ty, .int .u16 (p.seq : Int), .int .u32 (p.time : Int), .int .u32 (p.ssrc : Int), .slice B1 p.csrc.length d1, .int .u16 (1 + (X : Int)), .slice B2 k d2, .slice B3 p.pay.length d3] 27) = W7 at hX0 b7 hIu hIq hQ r4 r5 hJ ⊢
  generalize w6.heap.size = R at hX0 hXge hQR ⊢
  go_wp2_with fail
  refine (rtp_read_bytes A4 L c4 u _ r4 (by omega) hIu.kinds ru.out hIu.csrc.2.2.1).mono ?_
  rintro e w8 ⟨E1, f1, E2, f2, E3, f3, rfl, hK, bz⟩
  rw [eu2]
  have b8 := b7.trans (bz.mono b7.size)
  have hIu := hIu.on bz
  have hIq := hIq.on bz
  have hQ := hQ.below bz hQ.lt
  have hX0 := hX0.below bz hX0.lt
  have r4 := r4.on bz
  have r5 := r5.on bz
  have hJ := hJ.on bz
  clear bz b7
  go_upto_region 10 with (fail)
  have hY := Blk.new w8 27 #[.bool p.m, .int .i64 p.ty, .int .u16 (p.seq : Int), .int .u32 (p.time : Int), .int .u32 (p.ssrc : Int), .slice E1 p.csrc.length f1, .int .u16 0, .slice E2 0 f2, .slice E3 p.pay.length f3]
  have bz := (Below.refl _ w8).alloc (Nat.le_refl _) (.cells #[.bool p.m, .int .i64 p.ty, .int .u16 (p.seq : Int), .int .u32 (p.time : Int), .int .u32 (p.ssrc : Int), .slice E1 p.csrc.length f1, .int .u16 0, .slice E2 0 f2, .slice E3 p.pay.length f3] 27)
  have b9 := b8.trans (bz.mono b8.size)
  have hIq := hIq.on bz
  have hRl := Lib.hid hX0.lt
  have hQ := hQ.below bz hQ.lt
  have hX0 := hX0.below bz hX0.lt
  have r4 := r4.on bz
  have r5 := r5.on bz
  have hJ := hJ.on bz
  have hK := hK.on bz
  clear bz b8 hIu
  generalize w8.alloc (.cells #[.bool p.m, .int .i64 p.ty, .int .u16 (p.seq : Int), .int .u32 (p.time : Int), .int .u32 (p.ssrc : Int), .slice E1 p.csrc.length f1, .int .u16 0, .slice E2 0 f2, .slice E3 p.pay.length f3] 27) = W9 at hY b9 hIq hQ hX0 r4 r5 hJ hK ⊢
  generalize w8.heap.size = Y at hY hRl ⊢
  obtain ⟨k0, k1, k2, k3, k4, k5, k6, k7, k8⟩ := blk9 hX0
  have z6 := hX0.frozen 6
  have z7 := hX0.frozen 7
  go_upto_region 11 with (fail)
  have hX1 := hX0.set_ 6 (.int .u16 0)
  have hX2 := hX1.set_ 7 (.slice none 0 0)
  simp only [List.setIfInBounds_toArray, List.set_cons_succ, List.set_cons_zero] at hX2
  have hRge : w.heap.size ≤ R := by have := hXge.out; omega
  have b10 := Below.setCell (Below.setCell b9 (p := ⟨R, 6, none⟩) hRge (.int .u16 0)) (p := ⟨R, 7, none⟩) hRge (.slice none 0 0)
  have hQ2 := (hQ.far (p := ⟨R, 6, none⟩) (show P + 1 ≠ R by have := hQR.out; omega) (.int .u16 0)).far (p := ⟨R, 7, none⟩) (show P + 1 ≠ R by have := hQR.out; omega) (.slice none 0 0)
  have hY2 := (hY.far (p := ⟨R, 6, none⟩) (show Y ≠ R by have := hRl.out; omega) (.int .u16 0)).far (p := ⟨R, 7, none⟩) (show Y ≠ R by have := hRl.out; omega) (.slice none 0 0)
  have c6 : W9.cell? ⟨R, 6, none⟩ = some (.int .u16 (1 + (X : Int))) := k6
  have c7 : (W9.setCell ⟨R, 6, none⟩ (.int .u16 0)).cell? ⟨R, 7, none⟩ = some (.slice B2 k d2) := hX1.cell 7
  have t8 : ∀ {A : Option Addr} {n c : Nat} {l : List UInt8}, R8 W9 W9.heap.size A n c l → R8 ((W9.setCell ⟨R, 6, none⟩ (.int .u16 0)).setCell ⟨R, 7, none⟩ (.slice none 0 0)) ((W9.setCell ⟨R, 6, none⟩ (.int .u16 0)).setCell ⟨R, 7, none⟩ (.slice none 0 0)).heap.size A n c l := by
    intro A n c l h
    have := (h.setNot c6 (by simp) (.int .u16 0)).setNot c7 (by simp) (.slice none 0 0)
    rwa [size_setCell, size_setCell]
  have t32 : ∀ {A : Option Addr} {n c : Nat} {l : List Nat}, R32 W9 W9.heap.size A n c l → R32 ((W9.setCell ⟨R, 6, none⟩ (.int .u16 0)).setCell ⟨R, 7, none⟩ (.slice none 0 0)) ((W9.setCell ⟨R, 6, none⟩ (.int .u16 0)).setCell ⟨R, 7, none⟩ (.slice none 0 0)).heap.size A n c l := by
    intro A n c l h
    have := (h.setNot c6 (by simp) (.int .u16 0)).setNot c7 (by simp) (.slice none 0 0)
    rwa [size_setCell, size_setCell]
  have r4 := t8 r4
  have r5 := t8 r5
  have hIq : IsP _ _ _ _ _ _ _ _ q := ⟨t32 hIq.csrc, t8 hIq.ext, t8 hIq.pay, hIq.kinds⟩
  have hK : IsP _ _ _ _ _ _ _ _ u := ⟨t32 hK.csrc, t8 hK.ext, t8 hK.pay, hK.kinds⟩
  have hJ2 : IsP _ _ _ _ _ _ _ _ q := ⟨t32 hJ.csrc, t8 hJ.ext, t8 hJ.pay, hJ.kinds⟩
  have hJu : IsP ((W9.setCell ⟨R, 6, none⟩ (.int .u16 0)).setCell ⟨R, 7, none⟩ (.slice none 0 0)) ((W9.setCell ⟨R, 6, none⟩ (.int .u16 0)).setCell ⟨R, 7, none⟩ (.slice none 0 0)).heap.size B1 d1 none 0 B3 d3 u := by
    rw [← hxu]
    exact ⟨hJ2.csrc, R8.nil _ _ _ _, hJ2.pay, by rw [hxu]; exact hK.kinds⟩
  clear k0 k1 k2 k3 k4 k5 k6 k7 k8 z6 z7 hX0 hX1 hQ hY b9 c6 c7 t8 t32 hJ hJ2
  generalize (W9.setCell ⟨R, 6, none⟩ (.int .u16 0)).setCell ⟨R, 7, none⟩ (.slice none 0 0) = V at hX2 b10 hQ2 hY2 r4 r5 hIq hK hJu ⊢
  have g4 : ∃ b off, A4 = some ⟨b, off, none⟩ ∧ b < V.heap.size ∧ V.cell? ⟨b, off, none⟩ = some (.int .u8 (F : Int)) := by
    obtain ⟨b, off, e, hlt, hc⟩ := r4.2.2 (by omega)
    refine ⟨b, off, e, hlt, ?_⟩
    have := hc 0 (by omega)
    rw [Nat.add_zero] at this
    rw [this, ← hFuh.out]; rfl
  have g5 : ∃ b off, A5 = some ⟨b, off, none⟩ ∧ b < V.heap.size ∧ V.cell? ⟨b, off, none⟩ = some (.int .u8 ((F + 16 : Nat) : Int)) := by
    obtain ⟨b, off, e, hlt, hc⟩ := r5.2.2 (by omega)
    refine ⟨b, off, e, hlt, ?_⟩
    have := hc 0 (by omega)
    rw [Nat.add_zero] at this
    rw [this, ← hFqh.out]; rfl
  obtain ⟨m4, o4, rfl, ml4, mc4⟩ := g4
  obtain ⟨m5, o5, rfl, ml5, mc5⟩ := g5
  have hQl2 := hQ2.lt
  have hXl := hX2.lt
  have hYl := hY2.lt
  have gL : (0 : Int) < (L : Int) := by omega
  have gLne : ¬ L = 0 := by omega
  have gL2 : (0 : Int) < (L : Int) + 4 + (k : Int) := by omega
  refine wp_region_tbl [.val (.int .i64 0), .val (.bool true), .val (.bool true), .val (.int .i64 0), .val (.bool true), .val (.bool true), .val (.bool true), .val (.int .i64 0), .val (.bool true), .val (.bool true), .val (.bool true), .val (.int .i64 0), .val (.bool true), .val (.bool true), .val (.bool true), .val (.slice (some ⟨m5, o5, none⟩) (L + 4 + k) c5), .val (.int .i64 (L + 4 + k : Nat)), .val (.slice (some ⟨m4, o4, none⟩) L c4), .val (.int .i64 (L : Nat)), .val (.int .i64 (L + 4 : Nat)), .val (.pointer (some ⟨P + 1, 7, none⟩)), .val (.slice A9 k c9), .val (.int .i64 (k : Nat)), .val (.int .i64 (L + 4 + k : Nat)), .val (.bool true), .val (.bool true), .val (.bool true), .val (.agg #[.bool p.m, .int .i64 p.ty, .int .u16 (p.seq : Int), .int .u32 (p.time : Int), .int .u32 (p.ssrc : Int), .slice B1 p.csrc.length d1, .int .u16 0, .slice none 0 0, .slice B3 p.pay.length d3]), .val (.agg #[.bool p.m, .int .i64 p.ty, .int .u16 (p.seq : Int), .int .u32 (p.time : Int), .int .u32 (p.ssrc : Int), .slice E1 p.csrc.length f1, .int .u16 0, .slice E2 0 f2, .slice E3 p.pay.length f3]), .val (.bool true), .val (.bool true), .val (.bool true), .val (.agg #[.bool p.m, .int .i64 p.ty, .int .u16 (p.seq : Int), .int .u32 (p.time : Int), .int .u32 (p.ssrc : Int), .slice A1 p.csrc.length c1, .int .u16 (1 + (X : Int)), .slice A9 k c9, .slice A3 p.pay.length c3]), .val (.int .i64 (L + 4 + k : Nat)), .val (.slice (some ⟨m5, o5, none⟩) (L + 4 + k) c5), .val (.int .i64 (L + 4 + k : Nat)), .val (.bool true), .val (.bool true), .val (.bool true), .val (.slice (some ⟨m4, o4, none⟩) L c4), .val (.pointer (some ⟨m4, o4, none⟩)), .val (.int .u8 (F : Int)), .val (.int .u8 ((F + 16 : Nat) : Int)), .val (.slice (some ⟨m5, o5, none⟩) (L + 4 + k) c5), .val (.pointer (some ⟨m5, o5, none⟩)), .val (.int .u8 ((F + 16 : Nat) : Int)), .val (.bool true), .val (.bool true), .val (.bool true), .val (.bool true), .val (.bool true), .val (.bool true)] (by kernel_rfl) (by kernel_rfl) (by kernel_rfl) (AllObl.all ⟨?_, ?_, ?_, ?_, ?_, ?_, ?_, ?_, ?_, ?_, ?_, ?_, ?_, ?_, ?_, ?_, ?_, ?_, ?_, ?_, ?_, ?_, ?_, ?_, ?_, ?_, ?_, ?_, ?_, ?_, ?_, ?_, ?_, ?_, ?_, ?_, ?_, ?_, ?_, ?_, ?_, ?_, ?_, ?_, ?_, ?_, ?_, ?_, ?_, ?_, ?_, ?_, trivial⟩) ?_
  · exact Obl.move trivial _ (Or.inl rfl) (by kernel_rfl)
  · exact Obl.bin trivial .eql _ (.tmp 58) (.const (.int .i64 0)) _ rfl (.int .i64 0) (.int .i64 0) (.bool true) (by kernel_rfl) (by kernel_rfl) (fun w => by simp [eqGuard, go_sem]) (by kernel_rfl)
  · exact Obl.move trivial _ (Or.inl rfl) (by kernel_rfl)
  · exact Obl.move ⟨by kernel_rfl, by kernel_rfl, by kernel_rfl⟩ _ (Or.inl rfl) (by kernel_rfl)
  · exact Obl.bin ⟨by kernel_rfl, by kernel_rfl, by kernel_rfl⟩ .eql _ (.tmp 61) (.const (.int .i64 0)) _ rfl (.int .i64 0) (.int .i64 0) (.bool true) (by kernel_rfl) (by kernel_rfl) (fun w => by simp [eqGuard, go_sem]) (by kernel_rfl)
  · exact Obl.pick trivial _ _ _ rfl true (by kernel_rfl) (by kernel_rfl)
  · exact Obl.move trivial _ (Or.inl rfl) (by kernel_rfl)
  · exact Obl.move ⟨by kernel_rfl, by kernel_rfl, by kernel_rfl⟩ _ (Or.inl rfl) (by kernel_rfl)
  · exact Obl.bin ⟨by kernel_rfl, by kernel_rfl, by kernel_rfl⟩ .eql _ (.tmp 65) (.const (.int .i64 0)) _ rfl (.int .i64 0) (.int .i64 0) (.bool true) (by kernel_rfl) (by kernel_rfl) (fun w => by simp [eqGuard, go_sem]) (by kernel_rfl)
  · exact Obl.pick trivial _ _ _ rfl true (by kernel_rfl) (by kernel_rfl)
  · exact Obl.move trivial _ (Or.inl rfl) (by kernel_rfl)
  · exact Obl.move ⟨by kernel_rfl, by kernel_rfl, by kernel_rfl⟩ _ (Or.inl rfl) (by kernel_rfl)
  · exact Obl.bin ⟨by kernel_rfl, by kernel_rfl, by kernel_rfl⟩ .eql _ (.tmp 69) (.const (.int .i64 0)) _ rfl (.int .i64 0) (.int .i64 0) (.bool true) (by kernel_rfl) (by kernel_rfl) (fun w => by simp [eqGuard, go_sem]) (by kernel_rfl)
  · exact Obl.pick trivial _ _ _ rfl true (by kernel_rfl) (by kernel_rfl)
  · exact Obl.move trivial _ (Or.inl rfl) (by kernel_rfl)
  · exact Obl.move ⟨by kernel_rfl, by kernel_rfl, by kernel_rfl⟩ _ (Or.inl rfl) (by kernel_rfl)
  · exact Obl.lenV (x := (.tmp 73)) ⟨by kernel_rfl, by kernel_rfl, by kernel_rfl⟩ _ _ Try.underlying25 rfl ((some ⟨m5, o5, none⟩)) ((L + 4 + k)) (c5) (by kernel_rfl) (by kernel_rfl)
  · exact Obl.move ⟨by kernel_rfl, by kernel_rfl, by kernel_rfl⟩ _ (Or.inl rfl) (by kernel_rfl)
  · exact Obl.lenV (x := (.tmp 75)) ⟨by kernel_rfl, by kernel_rfl, by kernel_rfl⟩ _ _ Try.underlying25 rfl ((some ⟨m4, o4, none⟩)) (L) (c4) (by kernel_rfl) (by kernel_rfl)
  · exact Obl.bin ⟨by kernel_rfl, by kernel_rfl, by kernel_rfl⟩ .add _ (.tmp 76) (.const (.int .i64 4)) _ rfl (.int .i64 (L : Nat)) (.int .i64 4) (.int .i64 (L + 4 : Nat)) (by kernel_rfl) (by kernel_rfl) (fun w => by simp [eqGuard, go_sem, IntKind.wrap_i64]; omega) (by kernel_rfl)
  · exact Obl.pure ⟨by kernel_rfl, by kernel_rfl, by kernel_rfl⟩ (.pointer (some ⟨P + 1, 7, none⟩)) (by kernel_rfl) (fun ev w hb hx => by
      have e8 : ev (.tmp 8) = .pointer (some ⟨P + 1, 0, none⟩) := holds_val (hx (.tmp 8)) (by kernel_rfl)
      simp [execOp, e8, go_sem])
  · exact Obl.pure ⟨by kernel_rfl, by kernel_rfl, by kernel_rfl⟩ (.slice A9 k c9) (by kernel_rfl) (fun ev w hb hx => by
      have e78 : ev (.tmp 78) = .pointer (some ⟨P + 1, 7, none⟩) := holds_val (hx (.tmp 78)) (by kernel_rfl)
      obtain ⟨m0, m1, m2, m3, m4, m5, m6, m7, m8⟩ := blk9 (hQ2.below ((drew_below _).trans hb) hQl2); simp [execOp, e78, go_sem, m0, m1, m2, m3, m4, m5, m6, m7, m8])
  · exact Obl.lenV (x := (.tmp 79)) ⟨by kernel_rfl, by kernel_rfl, by kernel_rfl⟩ _ _ Try.underlying25 rfl (A9) (k) (c9) (by kernel_rfl) (by kernel_rfl)
  · exact Obl.bin ⟨by kernel_rfl, by kernel_rfl, by kernel_rfl⟩ .add _ (.tmp 77) (.tmp 80) _ rfl (.int .i64 (L + 4 : Nat)) (.int .i64 (k : Nat)) (.int .i64 (L + 4 + k : Nat)) (by kernel_rfl) (by kernel_rfl) (fun w => by simp [eqGuard, go_sem, IntKind.wrap_i64]; omega) (by kernel_rfl)
  · exact Obl.bin ⟨by kernel_rfl, by kernel_rfl, by kernel_rfl⟩ .eql _ (.tmp 74) (.tmp 81) _ rfl (.int .i64 (L + 4 + k : Nat)) (.int .i64 (L + 4 + k : Nat)) (.bool true) (by kernel_rfl) (by kernel_rfl) (fun w => by simp [eqGuard, go_sem]) (by kernel_rfl)
  · exact Obl.pick trivial _ _ _ rfl true (by kernel_rfl) (by kernel_rfl)
  · exact Obl.move trivial _ (Or.inl rfl) (by kernel_rfl)
  · exact Obl.pure ⟨by kernel_rfl, by kernel_rfl, by kernel_rfl⟩ (.agg #[.bool p.m, .int .i64 p.ty, .int .u16 (p.seq : Int), .int .u32 (p.time : Int), .int .u32 (p.ssrc : Int), .slice B1 p.csrc.length d1, .int .u16 0, .slice none 0 0, .slice B3 p.pay.length d3]) (by kernel_rfl) (fun ev w hb hx => by
      have e13 : ev (.tmp 13) = .pointer (some ⟨R, 0, none⟩) := holds_val (hx (.tmp 13)) (by kernel_rfl)
      obtain ⟨m0, m1, m2, m3, m4, m5, m6, m7, m8⟩ := blk9 (hX2.below ((drew_below _).trans hb) hXl); simp [execOp, e13, go_sem, m0, m1, m2, m3, m4, m5, m6, m7, m8])
  · exact Obl.pure ⟨by kernel_rfl, by kernel_rfl, by kernel_rfl⟩ (.agg #[.bool p.m, .int .i64 p.ty, .int .u16 (p.seq : Int), .int .u32 (p.time : Int), .int .u32 (p.ssrc : Int), .slice E1 p.csrc.length f1, .int .u16 0, .slice E2 0 f2, .slice E3 p.pay.length f3]) (by kernel_rfl) (fun ev w hb hx => by
      have e15 : ev (.tmp 15) = .pointer (some ⟨Y, 0, none⟩) := holds_val (hx (.tmp 15)) (by kernel_rfl)
      obtain ⟨m0, m1, m2, m3, m4, m5, m6, m7, m8⟩ := blk9 (hY2.below ((drew_below _).trans hb) hYl); simp [execOp, e15, go_sem, m0, m1, m2, m3, m4, m5, m6, m7, m8])
  · exact Obl.call ⟨by kernel_rfl, by kernel_rfl, by kernel_rfl⟩ 16 #[.tmp 85, .tmp 86] _ rfl Try.f16 Try.func16 (by kernel_rfl) (by kernel_rfl) (fun ev w hb hx => by
      have e85 : ev (.tmp 85) = .agg #[.bool p.m, .int .i64 p.ty, .int .u16 (p.seq : Int), .int .u32 (p.time : Int), .int .u32 (p.ssrc : Int), .slice B1 p.csrc.length d1, .int .u16 0, .slice none 0 0, .slice B3 p.pay.length d3] := holds_val (hx (.tmp 85)) (by kernel_rfl)
      have e86 : ev (.tmp 86) = .agg #[.bool p.m, .int .i64 p.ty, .int .u16 (p.seq : Int), .int .u32 (p.time : Int), .int .u32 (p.ssrc : Int), .slice E1 p.csrc.length f1, .int .u16 0, .slice E2 0 f2, .slice E3 p.pay.length f3] := holds_val (hx (.tmp 86)) (by kernel_rfl)
      simp only [List.map_toArray, List.map_cons, List.map_nil, e85, e86]
      exact ((show Calls _ _ #[.agg #[.bool p.m, .int .i64 p.ty, .int .u16 (p.seq : Int), .int .u32 (p.time : Int), .int .u32 (p.ssrc : Int), .slice B1 p.csrc.length d1, .int .u16 0, .slice none 0 0, .slice B3 p.pay.length d3], .agg #[.bool p.m, .int .i64 p.ty, .int .u16 (p.seq : Int), .int .u32 (p.time : Int), .int .u32 (p.ssrc : Int), .slice E1 p.csrc.length f1, .int .u16 0, .slice E2 0 f2, .slice E3 p.pay.length f3]] _ _ from (eu B1 d1 B3 d3) ▸ (eu2 E1 f1 E2 f2 E3 f3) ▸ ssu ▸ rtp_same u u B1 d1 none 0 B3 d3 E1 f1 E2 f2 E3 f3 w (hJu.on ((drew_below _).trans hb)) (hK.on ((drew_below _).trans hb)))).mono fun _ _ hh => Val.holds (by kernel_rfl) hh)
  · exact Obl.pick trivial _ _ _ rfl true (by kernel_rfl) (by kernel_rfl)
  · exact Obl.move trivial _ (Or.inl rfl) (by kernel_rfl)
  · exact Obl.pure ⟨by kernel_rfl, by kernel_rfl, by kernel_rfl⟩ (.agg #[.bool p.m, .int .i64 p.ty, .int .u16 (p.seq : Int), .int .u32 (p.time : Int), .int .u32 (p.ssrc : Int), .slice A1 p.csrc.length c1, .int .u16 (1 + (X : Int)), .slice A9 k c9, .slice A3 p.pay.length c3]) (by kernel_rfl) (fun ev w hb hx => by
      have e8 : ev (.tmp 8) = .pointer (some ⟨P + 1, 0, none⟩) := holds_val (hx (.tmp 8)) (by kernel_rfl)
      obtain ⟨m0, m1, m2, m3, m4, m5, m6, m7, m8⟩ := blk9 (hQ2.below ((drew_below _).trans hb) hQl2); simp [execOp, e8, go_sem, m0, m1, m2, m3, m4, m5, m6, m7, m8])
  · exact Obl.call ⟨by kernel_rfl, by kernel_rfl, by kernel_rfl⟩ 20 #[.tmp 90] _ rfl Try.f20 Try.func20 (by kernel_rfl) (by kernel_rfl) (fun ev w hb hx => by
      have e90 : ev (.tmp 90) = .agg #[.bool p.m, .int .i64 p.ty, .int .u16 (p.seq : Int), .int .u32 (p.time : Int), .int .u32 (p.ssrc : Int), .slice A1 p.csrc.length c1, .int .u16 (1 + (X : Int)), .slice A9 k c9, .slice A3 p.pay.length c3] := holds_val (hx (.tmp 90)) (by kernel_rfl)
      simp only [List.map_toArray, List.map_cons, List.map_nil, e90]
      exact ((show Calls _ _ #[.agg #[.bool p.m, .int .i64 p.ty, .int .u16 (p.seq : Int), .int .u32 (p.time : Int), .int .u32 (p.ssrc : Int), .slice A1 p.csrc.length c1, .int .u16 (1 + (X : Int)), .slice A9 k c9, .slice A3 p.pay.length c3]] _ _ from (eq A1 c1 A9 c9 A3 c3) ▸ szq.out ▸ rtp_size q A1 c1 A9 c9 A3 c3 w hIq.kinds)).mono fun _ _ hh => Val.holds (by kernel_rfl) hh)
  · exact Obl.move ⟨by kernel_rfl, by kernel_rfl, by kernel_rfl⟩ _ (Or.inl rfl) (by kernel_rfl)
  · exact Obl.lenV (x := (.tmp 92)) ⟨by kernel_rfl, by kernel_rfl, by kernel_rfl⟩ _ _ Try.underlying25 rfl ((some ⟨m5, o5, none⟩)) ((L + 4 + k)) (c5) (by kernel_rfl) (by kernel_rfl)
  · exact Obl.bin ⟨by kernel_rfl, by kernel_rfl, by kernel_rfl⟩ .eql _ (.tmp 91) (.tmp 93) _ rfl (.int .i64 (L + 4 + k : Nat)) (.int .i64 (L + 4 + k : Nat)) (.bool true) (by kernel_rfl) (by kernel_rfl) (fun w => by simp [eqGuard, go_sem]) (by kernel_rfl)
  · exact Obl.pick trivial _ _ _ rfl true (by kernel_rfl) (by kernel_rfl)
  · exact Obl.move trivial _ (Or.inl rfl) (by kernel_rfl)
  · exact Obl.move ⟨by kernel_rfl, by kernel_rfl, by kernel_rfl⟩ _ (Or.inl rfl) (by kernel_rfl)
  · exact Obl.pure ⟨by kernel_rfl, by kernel_rfl, by kernel_rfl⟩ (.pointer (some ⟨m4, o4, none⟩)) (by kernel_rfl) (fun ev w hb hx => by
      have e97 : ev (.tmp 97) = .slice (some ⟨m4, o4, none⟩) L c4 := holds_val (hx (.tmp 97)) (by kernel_rfl)
      have k0 : ev (.const (.int .i64 0)) = (.int .i64 0) := holds_val (hx (.const (.int .i64 0))) (by kernel_rfl)
      simp [execOp, e97, k0, go_sem, gL, gLne])
  · exact Obl.pure ⟨by kernel_rfl, by kernel_rfl, by kernel_rfl⟩ (.int .u8 (F : Int)) (by kernel_rfl) (fun ev w hb hx => by
      have e98 : ev (.tmp 98) = .pointer (some ⟨m4, o4, none⟩) := holds_val (hx (.tmp 98)) (by kernel_rfl)
      have mm := (((drew_below _).trans hb).cell (p := ⟨m4, o4, none⟩) ml4).trans mc4; simp [execOp, e98, go_sem, mm])
  · exact Obl.bin ⟨by kernel_rfl, by kernel_rfl, by kernel_rfl⟩ .or _ (.tmp 99) (.const (.int .u8 16)) _ rfl (.int .u8 (F : Int)) (.int .u8 16) (.int .u8 ((F + 16 : Nat) : Int)) (by kernel_rfl) (by kernel_rfl) (fun w => by have := oRF.out; simp [eqGuard, go_sem]; first | exact this | omega | (rw [this]; simp)) (by kernel_rfl)
  · exact Obl.move ⟨by kernel_rfl, by kernel_rfl, by kernel_rfl⟩ _ (Or.inl rfl) (by kernel_rfl)
  · exact Obl.pure ⟨by kernel_rfl, by kernel_rfl, by kernel_rfl⟩ (.pointer (some ⟨m5, o5, none⟩)) (by kernel_rfl) (fun ev w hb hx => by
      have e101 : ev (.tmp 101) = .slice (some ⟨m5, o5, none⟩) (L + 4 + k) c5 := holds_val (hx (.tmp 101)) (by kernel_rfl)
      have k0 : ev (.const (.int .i64 0)) = (.int .i64 0) := holds_val (hx (.const (.int .i64 0))) (by kernel_rfl)
      simp [execOp, e101, k0, go_sem, gL2])
  · exact Obl.pure ⟨by kernel_rfl, by kernel_rfl, by kernel_rfl⟩ (.int .u8 ((F + 16 : Nat) : Int)) (by kernel_rfl) (fun ev w hb hx => by
      have e102 : ev (.tmp 102) = .pointer (some ⟨m5, o5, none⟩) := holds_val (hx (.tmp 102)) (by kernel_rfl)
      have mm := (((drew_below _).trans hb).cell (p := ⟨m5, o5, none⟩) ml5).trans mc5; simp [execOp, e102, go_sem, mm])
  · exact Obl.bin ⟨by kernel_rfl, by kernel_rfl, by kernel_rfl⟩ .eql _ (.tmp 100) (.tmp 103) _ rfl (.int .u8 ((F + 16 : Nat) : Int)) (.int .u8 ((F + 16 : Nat) : Int)) (.bool true) (by kernel_rfl) (by kernel_rfl) (fun w => by simp [eqGuard, go_sem]) (by kernel_rfl)
  · exact Obl.pick trivial _ _ _ rfl true (by kernel_rfl) (by kernel_rfl)
  · exact Obl.move trivial _ (Or.inl rfl) (by kernel_rfl)
  · exact Obl.call ⟨by kernel_rfl, by kernel_rfl, by kernel_rfl⟩ 14 #[] _ rfl Try.f14 Try.func14 (by kernel_rfl) (by kernel_rfl) (fun ev w hb hx => by
      simp only [List.map_toArray, List.map_nil]
      exact (known_yes w).mono fun _ _ hh => hh.holds (by kernel_rfl))
  · exact Obl.pick trivial _ _ _ rfl true (by kernel_rfl) (by kernel_rfl)
  · exact Obl.move trivial _ (Or.inr rfl) (by kernel_rfl)
  intro a w4 hb hsz hdf hold hv
  have h8 : a.tmps.getD 6 undef = .bool true := holds_val (hv 51 6 (by kernel_rfl)) (by kernel_rfl)
  obtain ⟨tm, df⟩ := a
  have hdf' : df = [] := hdf
  subst hdf'
  go_wp2
  go_ret
  exact ⟨congrArg _ h8, b10.drew.trans (hb.mono b10.size)⟩
end Go.Proofs.Ytgdhkblpkllaaaa
