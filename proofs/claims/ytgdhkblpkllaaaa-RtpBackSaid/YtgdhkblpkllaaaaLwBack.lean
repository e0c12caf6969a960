/- The walk of layer 3's law RtpBack. -/
import Derived.Test.YtgdhkblpkllaaaaLwStart
namespace Go.Proofs.Ytgdhkblpkllaaaa
open Go.RowKit
set_option linter.unusedVariables false
set_option linter.unusedSimpArgs false

set_option maxRecDepth 100000 in
set_option maxHeartbeats 2000000 in
theorem rtpBack_walk (A : Option Addr) (n c : Nat) (pad cut : Int) (w : World) (h : RI w w.heap.size A n c) (hn : n ≤ 281474976710656) (hpad : I64 pad) (hcut : I64 cut) :
    Calls Try.prog 5 #[.slice A n c, .int .i64 pad, .int .i64 cut] w (Yes w) := by
  have hT := tape_at h hn
  have b0 : Below w.heap.size w (w.alloc (.cells #[.slice A n c, .int .i64 0] 32)) := (Below.refl _ w).alloc (Nat.le_refl _) _
  clear h
  go_enter Try.func5, Try.ntmps5
  go_wp2_with fail
  refine (tape_rtp _ _ hT).mono ?_
  rintro e w1 ⟨p, A1, c1, A2, c2, A3, c3, rfl, hI, hr, t1, t2, t3, hm⟩
  have b1 := b0.trans hm.below
  clear hT b0 hm
  simp only [Pkt.val]
  have ho := Lib.hid (p.ok_of hr)
  have hcw := Lib.hid hI.csrc.2.2.1
  have hrh := Lib.hid hr
  have hkh := Lib.hid hI.kinds
  have hsz := Lib.hid (show p.size ≤ 200 by unfold Pkt.size; split <;> omega)
  have hb12 := Lib.hid (show p.bytes.length = p.size from p.bytes_len (p.ok_of hr).pe)
  have hs12 := Lib.hid (show 12 ≤ p.size by unfold Pkt.size; omega)
  clear hr t1 t2 t3
  go_upto_region 2 with (fail)
  have hP := Blk.new w1 27 #[.bool p.m, .int .i64 p.ty, .int .u16 (p.seq : Int), .int .u32 (p.time : Int), .int .u32 (p.ssrc : Int), .slice A1 p.csrc.length c1, .int .u16 (p.prof : Int), .slice A2 p.ext.length c2, .slice A3 p.pay.length c3]
  have bz := (Below.refl _ w1).alloc (Nat.le_refl _) (.cells #[.bool p.m, .int .i64 p.ty, .int .u16 (p.seq : Int), .int .u32 (p.time : Int), .int .u32 (p.ssrc : Int), .slice A1 p.csrc.length c1, .int .u16 (p.prof : Int), .slice A2 p.ext.length c2, .slice A3 p.pay.length c3] 27)
  have b2 := b1.trans (bz.mono b1.size)
  have hI := hI.on bz
  clear bz b1
  generalize w1.alloc (.cells #[.bool p.m, .int .i64 p.ty, .int .u16 (p.seq : Int), .int .u32 (p.time : Int), .int .u32 (p.ssrc : Int), .slice A1 p.csrc.length c1, .int .u16 (p.prof : Int), .slice A2 p.ext.length c2, .slice A3 p.pay.length c3] 27) = W2 at hP b2 hI ⊢
  generalize w1.heap.size = P at hP ⊢
  obtain ⟨k0, k1, k2, k3, k4, k5, k6, k7, k8⟩ := blk9 hP
  go_wp2_with fail
  refine (show Calls _ _ #[.agg #[.bool p.m, .int .i64 p.ty, .int .u16 (p.seq : Int), .int .u32 (p.time : Int), .int .u32 (p.ssrc : Int), .slice A1 p.csrc.length c1, .int .u16 (p.prof : Int), .slice A2 p.ext.length c2, .slice A3 p.pay.length c3]] _ _ from rtp_bytes p A1 c1 A2 c2 A3 c3 W2 hI).mono ?_
  rintro e w3 ⟨hy, _⟩
  obtain ⟨v3, rfl, ho3, bz⟩ := hy hrh.out
  obtain ⟨A4, c4, rfl, r4⟩ := ho3.r8
  have b3 := b2.trans (bz.mono b2.size)
  have hI := hI.on bz
  have hP := hP.below bz hP.lt
  clear hy bz ho3 b2 k0 k1 k2 k3 k4 k5 k6 k7 k8
  obtain ⟨L, hL⟩ : ∃ L, p.bytes.length = L := ⟨_, rfl⟩
  rw [hL] at r4 ⊢
  have hLh := Lib.hid hL
  have hL12 : 12 ≤ L := by have := hb12.out; have := hs12.out; omega
  have hL200 : L ≤ 200 := by have := hb12.out; have := hsz.out; omega
  clear hL
  go_wp2_with fail
  refine (rtp_read_bytes A4 L c4 p _ r4 (by omega) hkh.out hrh.out hcw.out).mono ?_
  rintro e w4 ⟨B1, d1, B2, d2, B3, d3, rfl, hJ, bz⟩
  simp only [Pkt.val]
  have b4 := b3.trans (bz.mono b3.size)
  have r4 := r4.on bz
  have hI := hI.on bz
  have hP := hP.below bz hP.lt
  clear bz b3
  go_upto_region 4 with (fail)
  have hQ := Blk.new w4 27 #[.bool p.m, .int .i64 p.ty, .int .u16 (p.seq : Int), .int .u32 (p.time : Int), .int .u32 (p.ssrc : Int), .slice B1 p.csrc.length d1, .int .u16 (p.prof : Int), .slice B2 p.ext.length d2, .slice B3 p.pay.length d3]
  have bz := (Below.refl _ w4).alloc (Nat.le_refl _) (.cells #[.bool p.m, .int .i64 p.ty, .int .u16 (p.seq : Int), .int .u32 (p.time : Int), .int .u32 (p.ssrc : Int), .slice B1 p.csrc.length d1, .int .u16 (p.prof : Int), .slice B2 p.ext.length d2, .slice B3 p.pay.length d3] 27)
  have b5 := b4.trans (bz.mono b4.size)
  have r4 := r4.on bz
  have hI := hI.on bz
  have hJ := hJ.on bz
  have hP := hP.below bz hP.lt
  clear bz b4
  generalize w4.alloc (.cells #[.bool p.m, .int .i64 p.ty, .int .u16 (p.seq : Int), .int .u32 (p.time : Int), .int .u32 (p.ssrc : Int), .slice B1 p.csrc.length d1, .int .u16 (p.prof : Int), .slice B2 p.ext.length d2, .slice B3 p.pay.length d3] 27) = W5 at hP hQ b5 r4 hI hJ ⊢
  generalize w4.heap.size = Q at hQ ⊢
  obtain ⟨k0, k1, k2, k3, k4, k5, k6, k7, k8⟩ := blk9 hP
  obtain ⟨j0, j1, j2, j3, j4, j5, j6, j7, j8⟩ := blk9 hQ
  have g12 : ¬ (L : Int) < 12 := by omega
  go_wp2_with fail
  clear k0 k1 k2 k3 k4 k5 k6 k7 k8 j0 j1 j2 j3 j4 j5 j6 j7 j8
  refine (show Calls _ _ #[.agg #[.bool p.m, .int .i64 p.ty, .int .u16 (p.seq : Int), .int .u32 (p.time : Int), .int .u32 (p.ssrc : Int), .slice A1 p.csrc.length c1, .int .u16 (p.prof : Int), .slice A2 p.ext.length c2, .slice A3 p.pay.length c3], .agg #[.bool p.m, .int .i64 p.ty, .int .u16 (p.seq : Int), .int .u32 (p.time : Int), .int .u32 (p.ssrc : Int), .slice B1 p.csrc.length d1, .int .u16 (p.prof : Int), .slice B2 p.ext.length d2, .slice B3 p.pay.length d3]] _ _ from ref_same p p A1 c1 A2 c2 A3 c3 B1 d1 B2 d2 B3 d3 W5 hI hJ).mono ?_
  rw [samePk_refl p]
  rintro e w6 ⟨rfl, bz⟩
  have b6 := b5.trans (bz.mono b5.size)
  have r4 := r4.on bz
  have hI := hI.on bz
  have hP := hP.below bz hP.lt
  clear bz b5 hJ hQ
  obtain ⟨k, hk1, hk40, _, hwi⟩ := within_ex pad 1 40 hpad (by omega) (by omega) (by omega)
  obtain ⟨j, hj0, hj11, _, hwj⟩ := within_ex cut 0 11 hcut (by omega) (by omega) (by omega)
  obtain ⟨k, rfl⟩ := Int.eq_ofNat_of_zero_le (show 0 ≤ k by omega)
  obtain ⟨j, rfl⟩ := Int.eq_ofNat_of_zero_le hj0
  have hk1 : 1 ≤ k := by omega
  have hk0 : 0 < k := by omega
  have hk40 : k ≤ 40 := by omega
  have hj11 : j ≤ 11 := by omega
  go_wp2_with fail
  refine (hwi _).mono ?_
  rintro e w' ⟨rfl, hw'⟩
  obtain rfl := hw'.symm
  clear g12
  go_upto_region 7 with (fail)
  have ro := r4.alloc (Nat.le_refl _) (.cells #[] 5)
  have oe := Own8.empty w6 w6.heap.size (Nat.le_refl _)
  have hbb : ([] : List UInt8).length + L ≤ 140737488355328 := by simp; omega
  go_upto_region 8 with (first
    | (at_builtin; (with_reducible refine wpList_append8 rfl (.tmp 51) (.tmp 52) rfl rfl w6.heap.size (.slice (some ⟨w6.heap.size, 0, none⟩) 0 0) [] (by with_unfolding_all rfl) oe w6.heap.size A4 L c4 p.bytes (by with_unfolding_all rfl) ro hbb (by simp) ?_); intro v7 w7 ha7; have z7 : w6.heap.size ≤ w7.heap.size := Nat.le_trans (by simp) ha7.2.1.size; have l7 : ([] ++ p.bytes : List UInt8).length + k ≤ 1000000 := (by have := hLh.out; simp; omega); have o7 : Own8 w7 w6.heap.size v7 ([] ++ p.bytes) := ha7.1)
    | (at_builtin; (go_loud (with_reducible refine wpList_append_zeros8 rfl (.tmp 53) (.tmp 54) rfl w6.heap.size v7 ([] ++ p.bytes) (by with_unfolding_all rfl) o7 k (by with_unfolding_all rfl) hk0 l7 z7 ?_)); intro v8 w8 ha8))
  have bz := ha7.below ((Below.refl w6.heap.size w6).alloc (Nat.le_refl _) _) (by simp) oe (Nat.le_refl _)
  have bz := ha8.below bz z7 o7 (Nat.le_refl _)
  have o8 : Own8 w8 w6.heap.size v8 (p.bytes ++ List.replicate k 0) := by have := ha8.1; simpa using this
  have b8 := b6.trans (bz.mono b6.size)
  have hs6 := b6.size
  clear ha7 ha8 z7 l7 o7 ro oe hbb
  have e8 : (p.bytes ++ List.replicate k (0 : UInt8)).length = L + k := by rw [List.length_append, hLh.out, List.length_replicate]
  obtain ⟨g, c8, rfl, hg1, hg2, hfz, hcell⟩ := o8.some (by omega)
  rw [e8] at o8 hcell ⊢
  have hc0 : w8.cell? ⟨g, 0, none⟩ = some (.int .u8 (fb0 p : Int)) := by
    have := hcell 0 (by omega)
    rw [this]
    congr 2
    have e1 := bt_bytes p ho.out
    unfold bt at e1
    rw [← e1]
    rw [List.getD_eq_getElem?_getD, List.getD_eq_getElem?_getD, List.getElem?_append_left (by have := hLh.out; omega)]
  have hfb := fb0_le p ho.out
  have hor := or32 (fb0 p) (by omega) hfb.2.2
  have hf0 := hfz 0
  have g0 : (0 : Int) < (L : Int) + (k : Int) := by omega
  obtain ⟨F, hF⟩ : ∃ F, fb0 p = F := ⟨_, rfl⟩
  rw [hF] at hc0 hor hfb
  have hFh := Lib.hid hF
  clear hF
  go_upto_region 9 with (fail)
  have hx : ((UInt8.ofNat (F + 32)).toNat : Int) = (F : Int) + 32 := by simp; omega
  have o9 := o8.setAt (i := 0) (by omega) (UInt8.ofNat (F + 32))
  rw [hx] at o9
  have hcl : w8.cell? ⟨g, L + k - 1, none⟩ = some (.int .u8 (((p.bytes ++ List.replicate k (0 : UInt8)).getD (L + k - 1) 0).toNat : Int)) := hcell _ (by omega)
  have hcl9 : (w8.setCell ⟨g, 0, none⟩ (.int .u8 ((F : Int) + 32))).cell? ⟨g, L + k - 1, none⟩ = some (.int .u8 (((p.bytes ++ List.replicate k (0 : UInt8)).getD (L + k - 1) 0).toNat : Int)) := by
    rw [World.cell?_setCell_other _ _ _ _ (by intro e; injection e with _ e _; omega)]
    exact hcl
  have hfl9 : (w8.setCell ⟨g, 0, none⟩ (.int .u8 ((F : Int) + 32))).frozen? ⟨g, L + k - 1, none⟩ = false := by
    rw [World.frozen?_setCell]
    exact hfz _
  have bz := Below.setCell bz (p := ⟨g, 0, none⟩) hg1 (.int .u8 ((F : Int) + 32))
  generalize ((p.bytes ++ List.replicate k (0 : UInt8)).getD (L + k - 1) 0).toNat = Y at hcl9
  clear o8 hcl hc0 hor hf0 hfz hcell hx
  generalize w8.setCell ⟨g, 0, none⟩ (.int .u8 ((F : Int) + 32)) = W9 at o9 hcl9 hfl9 bz ⊢
  have gi : ((L : Int) + (k : Int) - 1).toNat = L + k - 1 := by omega
  have gk : (k : Int) % 256 = k := by omega
  have g1 : (L : Int) + (k : Int) - 1 < (L : Int) + (k : Int) := by omega
  have g2 : (0 : Int) ≤ (L : Int) + (k : Int) - 1 := by omega
  go_upto_region 10 with (fail)
  have hk8 : ((UInt8.ofNat k).toNat : Int) = (k : Int) := by simp; omega
  have o10 := o9.setAt (i := L + k - 1) (by rw [List.length_set, e8]; omega) (UInt8.ofNat k)
  rw [hk8] at o10
  have bz := Below.setCell bz (p := ⟨g, L + k - 1, none⟩) hg1 (.int .u8 (k : Int))
  have ep := pad_form p k hk1
  rw [hLh.out, hFh.out] at ep
  rw [ep] at o10
  have hread := pad_read p k hk1 hk40 hkh.out ho.out hcw.out (by have := hsz.out; omega)
  rw [hFh.out] at hread
  have el : (formL p (F + 32) (padD k)).length = L + k := by rw [← ep, List.length_set, List.length_set, e8]
  clear o9 hcl9 hfl9 gi gk g1 g2 hk8 ep e8
  generalize W9.setCell ⟨g, L + k - 1, none⟩ (.int .u8 (k : Int)) = W10 at o10 bz ⊢
  have b10 := b6.trans (bz.mono b6.size)
  have r4 := r4.on bz
  have hI := hI.on bz
  have hP := hP.below bz hP.lt
  clear bz b6 b8
  obtain ⟨A10, c10, hv10, r10⟩ := o10.r8
  injection hv10 with e1 e2 e3
  subst e1 e3
  rw [el] at r10
  clear o10 e2
  go_wp2_with fail
  refine (rtp_read_p _ (L + k) c8 _ p _ (by exact_mod_cast r10) (by omega) hread.1 hread.2).mono ?_
  rintro e w11 ⟨E1, f1, E2, f2, E3, f3, rfl, hK, bz⟩
  simp only [Pkt.val]
  have b11 := b10.trans (bz.mono b10.size)
  have r4 := r4.on bz
  have hI := hI.on bz
  have hP := hP.below bz hP.lt
  clear bz b10 r10 hread el
  go_upto_region 11 with (fail)
  have hR := Blk.new w11 27 #[.bool p.m, .int .i64 p.ty, .int .u16 (p.seq : Int), .int .u32 (p.time : Int), .int .u32 (p.ssrc : Int), .slice E1 p.csrc.length f1, .int .u16 (p.prof : Int), .slice E2 p.ext.length f2, .slice E3 p.pay.length f3]
  have bz := (Below.refl _ w11).alloc (Nat.le_refl _) (.cells #[.bool p.m, .int .i64 p.ty, .int .u16 (p.seq : Int), .int .u32 (p.time : Int), .int .u32 (p.ssrc : Int), .slice E1 p.csrc.length f1, .int .u16 (p.prof : Int), .slice E2 p.ext.length f2, .slice E3 p.pay.length f3] 27)
  have b12 := b11.trans (bz.mono b11.size)
  have r4 := r4.on bz
  have hI := hI.on bz
  have hK := hK.on bz
  have hP := hP.below bz hP.lt
  clear bz b11
  generalize w11.alloc (.cells #[.bool p.m, .int .i64 p.ty, .int .u16 (p.seq : Int), .int .u32 (p.time : Int), .int .u32 (p.ssrc : Int), .slice E1 p.csrc.length f1, .int .u16 (p.prof : Int), .slice E2 p.ext.length f2, .slice E3 p.pay.length f3] 27) = W12 at hR hP b12 r4 hI hK ⊢
  generalize w11.heap.size = R at hR ⊢
  have hcut9 := fun W => run_cut_hi W A4 L c4 j (by have := r4.2.1; omega)
  have r4j := r4.take_ j (by omega)
  have hce := cut_err p ho.out j hj11
  go_wp2_with fail
  refine (hwj _).mono ?_
  rintro e w' ⟨rfl, hw'⟩
  obtain rfl := hw'.symm
  go_wp2_with fail
  refine (rtp_read_no A4 j c4 _ _ r4j (by omega) 13 hce (by decide)).mono ?_
  rintro e w13 ⟨C1, e1, C2, e2, C3, e3, rfl, bz⟩
  have b13 := b12.trans (bz.mono b12.size)
  have hI := hI.on bz
  have hK := hK.on bz
  have hP := hP.below bz hP.lt
  have hR := hR.below bz hR.lt
  clear bz b12 hcut9 r4j hce r4
  go_upto_region 12 with (fail)
  have bz := (Below.refl _ w13).alloc (Nat.le_refl _) (.cells #[.bool false, .int .i64 0, .int .u16 0, .int .u32 0, .int .u32 0, .slice C1 0 e1, .int .u16 0, .slice C2 0 e2, .slice C3 0 e3] 27)
  have b14 := b13.trans (bz.mono b13.size)
  have hI := hI.on bz
  have hK := hK.on bz
  have hP := hP.below bz hP.lt
  have hR := hR.below bz hR.lt
  clear bz b13
  generalize w13.alloc (.cells #[.bool false, .int .i64 0, .int .u16 0, .int .u32 0, .int .u32 0, .slice C1 0 e1, .int .u16 0, .slice C2 0 e2, .slice C3 0 e3] 27) = W14 at hR hP b14 hI hK ⊢
  obtain ⟨k0, k1, k2, k3, k4, k5, k6, k7, k8⟩ := blk9 hP
  obtain ⟨j0, j1, j2, j3, j4, j5, j6, j7, j8⟩ := blk9 hR
  go_wp2_with fail
  clear k0 k1 k2 k3 k4 k5 k6 k7 k8 j0 j1 j2 j3 j4 j5 j6 j7 j8
  refine (show Calls _ _ #[.agg #[.bool p.m, .int .i64 p.ty, .int .u16 (p.seq : Int), .int .u32 (p.time : Int), .int .u32 (p.ssrc : Int), .slice E1 p.csrc.length f1, .int .u16 (p.prof : Int), .slice E2 p.ext.length f2, .slice E3 p.pay.length f3], .agg #[.bool p.m, .int .i64 p.ty, .int .u16 (p.seq : Int), .int .u32 (p.time : Int), .int .u32 (p.ssrc : Int), .slice A1 p.csrc.length c1, .int .u16 (p.prof : Int), .slice A2 p.ext.length c2, .slice A3 p.pay.length c3]] _ _ from ref_same p p E1 f1 E2 f2 E3 f3 A1 c1 A2 c2 A3 c3 W14 hK hI).mono ?_
  rw [samePk_refl p]
  rintro e w15 ⟨rfl, bz⟩
  have b15 := b14.trans (bz.mono b14.size)
  clear bz b14 hI hK hP hR
  go_wp2_with fail
  refine (known_yes _).mono ?_
  rintro e w16 ⟨rfl, bz⟩
  have b16 := b15.trans (bz.mono b15.size)
  clear bz b15
  go_wp2_with fail
  go_ret
  exact ⟨rfl, b16⟩
end Go.Proofs.Ytgdhkblpkllaaaa
