/- The walk of layer 3's law RtpApart. -/
import Derived.Test.YtgdhkblpkllaaaaLwStart
import Derived.Test.YtgdhkblpkllaaaaRegL
namespace Go.Proofs.Ytgdhkblpkllaaaa
open Go.RowKit
set_option linter.unusedVariables false
set_option linter.unusedSimpArgs false

theorem RI.on {w w' : World} {n c : Nat} {A : Option Addr} (h : RI w w.heap.size A n c) (hb : Below w.heap.size w w') : RI w' w'.heap.size A n c :=
  ⟨h.1, fun hn => by
    obtain ⟨b, off, e, hlt, hc⟩ := (h.keep hb).2 hn
    exact ⟨b, off, e, Nat.lt_of_lt_of_le hlt hb.size, hc⟩⟩
set_option maxRecDepth 100000 in
set_option maxHeartbeats 2000000 in
theorem rtpApart_walk (A : Option Addr) (n c : Nat) (A' : Option Addr) (n' c' : Nat) (what : Int) (w : World) (h : RI w w.heap.size A n c) (hn : n ≤ 281474976710656) (h' : RI w w.heap.size A' n' c') (hn' : n' ≤ 281474976710656) (hwh : I64 what) :
    Calls Try.prog 7 #[.slice A n c, .slice A' n' c', .int .i64 what] w (Yes w) := by
  have hT := tape_at h hn
  have b0 : Below w.heap.size w (w.alloc (.cells #[.slice A n c, .int .i64 0] 32)) := (Below.refl _ w).alloc (Nat.le_refl _) _
  clear h
  go_enter Try.func7, Try.ntmps7
  go_wp2_with fail
  refine (tape_rtp _ _ hT).mono ?_
  rintro e w1 ⟨p, A1, c1, A2, c2, A3, c3, rfl, hI, hr, t1, t2, t3, hm⟩
  have b1 := b0.trans hm.below
  have h' := h'.on b1
  have hT2 := tape_at h' hn'
  have bt2 : Below w1.heap.size w1 (w1.alloc (.cells #[.slice A' n' c', .int .i64 0] 32)) := (Below.refl _ w1).alloc (Nat.le_refl _) _
  clear hT b0 hm h'
  simp only [Pkt.val]
  go_wp2_with fail
  refine (tape_rtp _ _ hT2).mono ?_
  rintro e w2 ⟨q, B1, d1, B2, d2, B3, d3, rfl, hJ, hr2, u1, u2, u3, hm⟩
  have bz := bt2.trans hm.below
  have b2 := b1.trans (bz.mono b1.size)
  have hI := hI.on bz
  clear hT2 bt2 hm bz b1
  simp only [Pkt.val]
  have hrp := Lib.hid hr
  have hrq := Lib.hid hr2
  have hsz := Lib.hid (show p.size ≤ 200 by unfold Pkt.size; split <;> omega)
  have hpl := Lib.hid (show p.pay.length ≤ 30 ∧ p.csrc.length ≤ 3 by omega)
  clear hr hr2 t1 t2 t3 u1 u2 u3
  go_upto_region 2 with (fail)
  have s2 : (w2.alloc (.cells #[.bool p.m, .int .i64 p.ty, .int .u16 (p.seq : Int), .int .u32 (p.time : Int), .int .u32 (p.ssrc : Int), .slice A1 p.csrc.length c1, .int .u16 (p.prof : Int), .slice A2 p.ext.length c2, .slice A3 p.pay.length c3] 27)).heap.size = w2.heap.size + 1 := by simp
  have bx := (Below.refl _ w2).alloc (Nat.le_refl _) (.cells #[.bool p.m, .int .i64 p.ty, .int .u16 (p.seq : Int), .int .u32 (p.time : Int), .int .u32 (p.ssrc : Int), .slice A1 p.csrc.length c1, .int .u16 (p.prof : Int), .slice A2 p.ext.length c2, .slice A3 p.pay.length c3] 27)
  have by_ := (Below.refl _ (w2.alloc (.cells #[.bool p.m, .int .i64 p.ty, .int .u16 (p.seq : Int), .int .u32 (p.time : Int), .int .u32 (p.ssrc : Int), .slice A1 p.csrc.length c1, .int .u16 (p.prof : Int), .slice A2 p.ext.length c2, .slice A3 p.pay.length c3] 27))).alloc (Nat.le_refl _) (.cells #[.bool q.m, .int .i64 q.ty, .int .u16 (q.seq : Int), .int .u32 (q.time : Int), .int .u32 (q.ssrc : Int), .slice B1 q.csrc.length d1, .int .u16 (q.prof : Int), .slice B2 q.ext.length d2, .slice B3 q.pay.length d3] 27)
  have hP := (Blk.new w2 27 #[.bool p.m, .int .i64 p.ty, .int .u16 (p.seq : Int), .int .u32 (p.time : Int), .int .u32 (p.ssrc : Int), .slice A1 p.csrc.length c1, .int .u16 (p.prof : Int), .slice A2 p.ext.length c2, .slice A3 p.pay.length c3]).alloc (.cells #[.bool q.m, .int .i64 q.ty, .int .u16 (q.seq : Int), .int .u32 (q.time : Int), .int .u32 (q.ssrc : Int), .slice B1 q.csrc.length d1, .int .u16 (q.prof : Int), .slice B2 q.ext.length d2, .slice B3 q.pay.length d3] 27)
  have hQ := Blk.new (w2.alloc (.cells #[.bool p.m, .int .i64 p.ty, .int .u16 (p.seq : Int), .int .u32 (p.time : Int), .int .u32 (p.ssrc : Int), .slice A1 p.csrc.length c1, .int .u16 (p.prof : Int), .slice A2 p.ext.length c2, .slice A3 p.pay.length c3] 27)) 27 #[.bool q.m, .int .i64 q.ty, .int .u16 (q.seq : Int), .int .u32 (q.time : Int), .int .u32 (q.ssrc : Int), .slice B1 q.csrc.length d1, .int .u16 (q.prof : Int), .slice B2 q.ext.length d2, .slice B3 q.pay.length d3]
  rw [s2] at hQ
  have bz := bx.trans (by_.mono bx.size)
  have b3 := b2.trans (bz.mono b2.size)
  have hI := hI.on bz
  have hJ := hJ.on bz
  clear bz bx by_ b2 s2
  generalize (w2.alloc (.cells #[.bool p.m, .int .i64 p.ty, .int .u16 (p.seq : Int), .int .u32 (p.time : Int), .int .u32 (p.ssrc : Int), .slice A1 p.csrc.length c1, .int .u16 (p.prof : Int), .slice A2 p.ext.length c2, .slice A3 p.pay.length c3] 27)).alloc (.cells #[.bool q.m, .int .i64 q.ty, .int .u16 (q.seq : Int), .int .u32 (q.time : Int), .int .u32 (q.ssrc : Int), .slice B1 q.csrc.length d1, .int .u16 (q.prof : Int), .slice B2 q.ext.length d2, .slice B3 q.pay.length d3] 27) = W3 at hP hQ b3 hI hJ ⊢
  generalize w2.heap.size = P at hP hQ ⊢
  obtain ⟨k0, k1, k2, k3, k4, k5, k6, k7, k8⟩ := blk9 hP
  go_wp2_with fail
  clear k0 k1 k2 k3 k4 k5 k6 k7 k8
  refine (show Calls _ _ #[.agg #[.bool p.m, .int .i64 p.ty, .int .u16 (p.seq : Int), .int .u32 (p.time : Int), .int .u32 (p.ssrc : Int), .slice A1 p.csrc.length c1, .int .u16 (p.prof : Int), .slice A2 p.ext.length c2, .slice A3 p.pay.length c3]] _ _ from rtp_bytes p A1 c1 A2 c2 A3 c3 W3 hI).mono ?_
  rintro e w4 ⟨hy, _⟩
  obtain ⟨v4, rfl, ho4, bz⟩ := hy hrp.out
  obtain ⟨A4, c4, rfl, r4⟩ := ho4.r8
  have b4 := b3.trans (bz.mono b3.size)
  have hI := hI.on bz
  have hJ := hJ.on bz
  have hP := hP.below bz hP.lt
  have hQ := hQ.below bz hQ.lt
  clear hy bz ho4 b3
  obtain ⟨k0, k1, k2, k3, k4, k5, k6, k7, k8⟩ := blk9 hQ
  obtain ⟨L1, hL1⟩ : ∃ L, p.bytes.length = L := ⟨_, rfl⟩
  rw [hL1] at r4 ⊢
  clear hL1
  go_wp2_with fail
  clear k0 k1 k2 k3 k4 k5 k6 k7 k8
  refine (show Calls _ _ #[.agg #[.bool q.m, .int .i64 q.ty, .int .u16 (q.seq : Int), .int .u32 (q.time : Int), .int .u32 (q.ssrc : Int), .slice B1 q.csrc.length d1, .int .u16 (q.prof : Int), .slice B2 q.ext.length d2, .slice B3 q.pay.length d3]] _ _ from rtp_bytes q B1 d1 B2 d2 B3 d3 w4 hJ).mono ?_
  rintro e w5 ⟨hy, _⟩
  obtain ⟨v5, rfl, ho5, bz⟩ := hy hrq.out
  obtain ⟨A5, c5, rfl, r5⟩ := ho5.r8
  have b5 := b4.trans (bz.mono b4.size)
  have r4 := r4.on bz
  have hI := hI.on bz
  have hJ := hJ.on bz
  have hP := hP.below bz hP.lt
  have hQ := hQ.below bz hQ.lt
  clear hy bz ho5 b4
  obtain ⟨L2, hL2⟩ : ∃ L, q.bytes.length = L := ⟨_, rfl⟩
  rw [hL2] at r5 ⊢
  clear hL2
  obtain ⟨k0, k1, k2, k3, k4, k5, k6, k7, k8⟩ := blk9 hP
  go_upto_region 5 with (fail)
  clear k0 k1 k2 k3 k4 k5 k6 k7 k8
  have hR := Blk.new w5 27 #[.bool p.m, .int .i64 p.ty, .int .u16 (p.seq : Int), .int .u32 (p.time : Int), .int .u32 (p.ssrc : Int), .slice A1 p.csrc.length c1, .int .u16 (p.prof : Int), .slice A2 p.ext.length c2, .slice A3 p.pay.length c3]
  have bR := (Below.refl _ w5).alloc (Nat.le_refl _) (.cells #[.bool p.m, .int .i64 p.ty, .int .u16 (p.seq : Int), .int .u32 (p.time : Int), .int .u32 (p.ssrc : Int), .slice A1 p.csrc.length c1, .int .u16 (p.prof : Int), .slice A2 p.ext.length c2, .slice A3 p.pay.length c3] 27)
  have sR : (w5.alloc (.cells #[.bool p.m, .int .i64 p.ty, .int .u16 (p.seq : Int), .int .u32 (p.time : Int), .int .u32 (p.ssrc : Int), .slice A1 p.csrc.length c1, .int .u16 (p.prof : Int), .slice A2 p.ext.length c2, .slice A3 p.pay.length c3] 27)).heap.size = w5.heap.size + 1 := by simp
  generalize w5.alloc (.cells #[.bool p.m, .int .i64 p.ty, .int .u16 (p.seq : Int), .int .u32 (p.time : Int), .int .u32 (p.ssrc : Int), .slice A1 p.csrc.length c1, .int .u16 (p.prof : Int), .slice A2 p.ext.length c2, .slice A3 p.pay.length c3] 27) = W6 at hR bR sR ⊢
  have sRh := Lib.hid sR
  have hRl6 := hR.lt
  clear sR
  obtain ⟨j, hj0, hj3, _, hwj⟩ := within_ex what 0 3 hwh (by omega) (by omega) (by omega)
  obtain ⟨j, rfl⟩ := Int.eq_ofNat_of_zero_le hj0
  have hj3 : j ≤ 3 := by omega
  clear hj0
  have hk := hI.kinds
  have ho := p.ok_of hrp.out
  obtain ⟨k0, k1, k2, k3, k4, k5, k6, k7, k8⟩ := blk9 hR
  have z0 := hR.frozen 0
  have z2 := hR.frozen 2
  have z3 := hR.frozen 3
  have z8 := hR.frozen 8
  have hI6 := hI.on bR
  have oe := Own8.empty W6 W6.heap.size (Nat.le_refl _)
  have rp := hI6.pay.alloc (Nat.le_refl _) (.cells #[] 5)
  have hbb : ([] : List UInt8).length + p.pay.length ≤ 140737488355328 := by have := hpl.out; simp; omega
  have hbb2 : ([] ++ p.pay : List UInt8).length + 1 ≤ 140737488355328 := by have := hpl.out; simp; omega
  go_wp2_with fail
  refine (hwj _).mono ?_
  rintro e w' ⟨rfl, hw'⟩
  obtain rfl := hw'.symm
  obtain rfl | rfl | rfl | rfl : j = 0 ∨ j = 1 ∨ j = 2 ∨ j = 3 := by omega
  · clear oe rp hbb hbb2
    go_upto_region 13 with (fail)
    have key : ∃ (r : Pkt) (C1 : Option Addr) (e1 : Nat) (C2 : Option Addr) (e2 : Nat) (C3 : Option Addr) (e3 : Nat), Blk (W6.setCell ⟨w5.heap.size, 2, none⟩ (.int .u16 (IntKind.u16.wrap ((p.seq : Int) + 1)))) w5.heap.size 27 #[.bool r.m, .int .i64 r.ty, .int .u16 (r.seq : Int), .int .u32 (r.time : Int), .int .u32 (r.ssrc : Int), .slice C1 r.csrc.length e1, .int .u16 (r.prof : Int), .slice C2 r.ext.length e2, .slice C3 r.pay.length e3] ∧ IsP (W6.setCell ⟨w5.heap.size, 2, none⟩ (.int .u16 (IntKind.u16.wrap ((p.seq : Int) + 1)))) (W6.setCell ⟨w5.heap.size, 2, none⟩ (.int .u16 (IntKind.u16.wrap ((p.seq : Int) + 1)))).heap.size C1 e1 C2 e2 C3 e3 r ∧ r ≠ p ∧ r.right = 0 ∧ Below w5.heap.size w5 (W6.setCell ⟨w5.heap.size, 2, none⟩ (.int .u16 (IntKind.u16.wrap ((p.seq : Int) + 1)))) := by
      have bb : Below w5.heap.size w5 (W6.setCell ⟨w5.heap.size, 2, none⟩ (.int .u16 (IntKind.u16.wrap ((p.seq : Int) + 1)))) := Below.setCell bR (p := ⟨w5.heap.size, 2, none⟩) (Nat.le_refl _) _
      have hk2 := hI.on bb
      refine ⟨{ p with seq := (p.seq + 1) % 65536 }, A1, c1, A2, c2, A3, c3, ?_, ⟨hk2.csrc, hk2.ext, hk2.pay, ?_⟩, ?_, ?_, bb⟩
      · have := hR.set_ 2 (.int .u16 (IntKind.u16.wrap ((p.seq : Int) + 1)))
        have ew : IntKind.u16.wrap ((p.seq : Int) + 1) = (((p.seq + 1) % 65536 : Nat) : Int) := by show ((p.seq : Int) + 1) % 65536 = _; omega
        rw [ew] at this ⊢
        simpa using this
      · exact { hk with seq := by simp only; omega }
      · intro e
        have := congrArg Pkt.seq e; simp only at this; have := hk.seq; omega
      · exact Pkt.ok_right _ ⟨ho.t0, ho.t1, ho.c, ho.e4, ho.pe, ho.sz⟩
    obtain ⟨r, C1, e1, C2, e2, C3, e3, hR9, hK, hne, hrr, bz⟩ := key
    generalize W6.setCell ⟨w5.heap.size, 2, none⟩ (.int .u16 (IntKind.u16.wrap ((p.seq : Int) + 1))) = W9 at hR9 hK bz ⊢
    clear k0 k1 k2 k3 k4 k5 k6 k7 k8 z0 z2 z3 z8 hI6 hR bR hk ho hRl6
    have b9 := b5.trans (bz.mono b5.size)
    have hP := hP.below bz hP.lt
    have hQ := hQ.below bz hQ.lt
    have r4 := r4.on bz
    have r5 := r5.on bz
    have hI := hI.on bz
    have hJ := hJ.on bz
    clear bz b5
    obtain ⟨k0, k1, k2, k3, k4, k5, k6, k7, k8⟩ := blk9 hR9
    go_wp2_with fail
    clear k0 k1 k2 k3 k4 k5 k6 k7 k8
    refine (show Calls _ _ #[.agg #[.bool r.m, .int .i64 r.ty, .int .u16 (r.seq : Int), .int .u32 (r.time : Int), .int .u32 (r.ssrc : Int), .slice C1 r.csrc.length e1, .int .u16 (r.prof : Int), .slice C2 r.ext.length e2, .slice C3 r.pay.length e3]] _ _ from rtp_bytes r C1 e1 C2 e2 C3 e3 W9 hK).mono ?_
    rintro e w10 ⟨hy, _⟩
    obtain ⟨v10, rfl, ho10, bz⟩ := hy hrr
    obtain ⟨A10, c10, rfl, r10⟩ := ho10.r8
    have b10 := b9.trans (bz.mono b9.size)
    have hP := hP.below bz hP.lt
    have hQ := hQ.below bz hQ.lt
    have hR10 := hR9.below bz hR9.lt
    have r4 := r4.on bz
    have r5 := r5.on bz
    have hI := hI.on bz
    have hJ := hJ.on bz
    have hK := hK.on bz
    clear hy bz ho10 b9
    obtain ⟨L3, hL3⟩ : ∃ L, r.bytes.length = L := ⟨_, rfl⟩
    rw [hL3] at r10 ⊢
    clear hL3 hR9
    obtain ⟨D, hD⟩ : ∃ D, samePk p q = D := ⟨_, rfl⟩
    have hDb : (p.bytes == q.bytes) = D := by
      rw [← hD, Bool.eq_iff_iff, beq_iff_eq, samePk_iff]
      exact ⟨fun e => bytes_inj p q hI.kinds hJ.kinds hrp.out hrq.out hI.csrc.2.2.1 hJ.csrc.2.2.1 e, fun e => by rw [e]⟩
    have hNe : (p.bytes != r.bytes) = true := by
      rw [bne_iff_ne]
      exact fun e => hne (bytes_inj r p hK.kinds hI.kinds hrr hrp.out hK.csrc.2.2.1 hI.csrc.2.2.1 e.symm)
    have hPR : samePk p r = false := by
      cases hs : samePk p r with
      | false => rfl
      | true => exact absurd ((samePk_iff p r).1 hs).symm hne
    have hPl := hP.lt
    have hQl := hQ.lt
    have hRl := hR10.lt
    go_upto_region 14 with (fail)
    refine wp_region_tbl [.val (.int .i64 0), .val (.bool true), .val (.bool true), .val (.int .i64 0), .val (.bool true), .val (.bool true), .val (.bool true), .val (.int .i64 0), .val (.bool true), .val (.bool true), .val (.bool true), .val (.slice A4 L1 c4), .val (.string ⟨(p.bytes).toArray⟩), .val (.slice A5 L2 c5), .val (.string ⟨(q.bytes).toArray⟩), .val (.bool D), .val (.agg #[.bool p.m, .int .i64 p.ty, .int .u16 (p.seq : Int), .int .u32 (p.time : Int), .int .u32 (p.ssrc : Int), .slice A1 p.csrc.length c1, .int .u16 (p.prof : Int), .slice A2 p.ext.length c2, .slice A3 p.pay.length c3]), .val (.agg #[.bool q.m, .int .i64 q.ty, .int .u16 (q.seq : Int), .int .u32 (q.time : Int), .int .u32 (q.ssrc : Int), .slice B1 q.csrc.length d1, .int .u16 (q.prof : Int), .slice B2 q.ext.length d2, .slice B3 q.pay.length d3]), .val (.bool D), .val (.bool true), .val (.bool true), .val (.bool true), .val (.slice A4 L1 c4), .val (.string ⟨(p.bytes).toArray⟩), .val (.slice A10 L3 c10), .val (.string ⟨(r.bytes).toArray⟩), .val (.bool true), .val (.bool true), .val (.bool true), .val (.agg #[.bool p.m, .int .i64 p.ty, .int .u16 (p.seq : Int), .int .u32 (p.time : Int), .int .u32 (p.ssrc : Int), .slice A1 p.csrc.length c1, .int .u16 (p.prof : Int), .slice A2 p.ext.length c2, .slice A3 p.pay.length c3]), .val (.agg #[.bool r.m, .int .i64 r.ty, .int .u16 (r.seq : Int), .int .u32 (r.time : Int), .int .u32 (r.ssrc : Int), .slice C1 r.csrc.length e1, .int .u16 (r.prof : Int), .slice C2 r.ext.length e2, .slice C3 r.pay.length e3]), .val (.bool false), .val (.bool true), .val (.bool true), .val (.bool true), .val (.bool true), .val (.bool true), .val (.bool true)] (by kernel_rfl) (by kernel_rfl) (by kernel_rfl) (AllObl.all ⟨?_, ?_, ?_, ?_, ?_, ?_, ?_, ?_, ?_, ?_, ?_, ?_, ?_, ?_, ?_, ?_, ?_, ?_, ?_, ?_, ?_, ?_, ?_, ?_, ?_, ?_, ?_, ?_, ?_, ?_, ?_, ?_, ?_, ?_, ?_, ?_, ?_, ?_, trivial⟩) ?_
    · exact Obl.move trivial _ (Or.inl rfl) (by kernel_rfl)
    · exact Obl.bin trivial .eql _ (.tmp 67) (.const (.int .i64 0)) _ rfl (.int .i64 0) (.int .i64 0) (.bool true) (by kernel_rfl) (by kernel_rfl) (fun w => by simp [eqGuard, go_sem]) (by kernel_rfl)
    · exact Obl.move trivial _ (Or.inl rfl) (by kernel_rfl)
    · exact Obl.move ⟨by kernel_rfl, by kernel_rfl, by kernel_rfl⟩ _ (Or.inl rfl) (by kernel_rfl)
    · exact Obl.bin ⟨by kernel_rfl, by kernel_rfl, by kernel_rfl⟩ .eql _ (.tmp 70) (.const (.int .i64 0)) _ rfl (.int .i64 0) (.int .i64 0) (.bool true) (by kernel_rfl) (by kernel_rfl) (fun w => by simp [eqGuard, go_sem]) (by kernel_rfl)
    · exact Obl.pick trivial _ _ _ rfl true (by kernel_rfl) (by kernel_rfl)
    · exact Obl.move trivial _ (Or.inl rfl) (by kernel_rfl)
    · exact Obl.move ⟨by kernel_rfl, by kernel_rfl, by kernel_rfl⟩ _ (Or.inl rfl) (by kernel_rfl)
    · exact Obl.bin ⟨by kernel_rfl, by kernel_rfl, by kernel_rfl⟩ .eql _ (.tmp 74) (.const (.int .i64 0)) _ rfl (.int .i64 0) (.int .i64 0) (.bool true) (by kernel_rfl) (by kernel_rfl) (fun w => by simp [eqGuard, go_sem]) (by kernel_rfl)
    · exact Obl.pick trivial _ _ _ rfl true (by kernel_rfl) (by kernel_rfl)
    · exact Obl.move trivial _ (Or.inl rfl) (by kernel_rfl)
    · exact Obl.move ⟨by kernel_rfl, by kernel_rfl, by kernel_rfl⟩ _ (Or.inl rfl) (by kernel_rfl)
    · exact Obl.str (x := .tmp 78) ⟨by kernel_rfl, by kernel_rfl, by kernel_rfl⟩ 25 5 9 rfl Try.underlying25 Try.underlying5 Try.underlying9 (p.bytes) (.inr ⟨A4, L1, c4, by kernel_rfl, r4⟩) (by kernel_rfl)
    · exact Obl.move ⟨by kernel_rfl, by kernel_rfl, by kernel_rfl⟩ _ (Or.inl rfl) (by kernel_rfl)
    · exact Obl.str (x := .tmp 80) ⟨by kernel_rfl, by kernel_rfl, by kernel_rfl⟩ 25 5 9 rfl Try.underlying25 Try.underlying5 Try.underlying9 (q.bytes) (.inr ⟨A5, L2, c5, by kernel_rfl, r5⟩) (by kernel_rfl)
    · exact Obl.bin ⟨by kernel_rfl, by kernel_rfl, by kernel_rfl⟩ .eql _ (.tmp 79) (.tmp 81) _ rfl (.string ⟨(p.bytes).toArray⟩) (.string ⟨(q.bytes).toArray⟩) (.bool D) (by kernel_rfl) (by kernel_rfl) (eql_strs _ _ _ hDb _ _) (by kernel_rfl)
    · exact Obl.pure ⟨by kernel_rfl, by kernel_rfl, by kernel_rfl⟩ (.agg #[.bool p.m, .int .i64 p.ty, .int .u16 (p.seq : Int), .int .u32 (p.time : Int), .int .u32 (p.ssrc : Int), .slice A1 p.csrc.length c1, .int .u16 (p.prof : Int), .slice A2 p.ext.length c2, .slice A3 p.pay.length c3]) (by kernel_rfl) (fun ev w hb hx => by
        have e7 : ev (.tmp 7) = .pointer (some ⟨P, 0, none⟩) := holds_val (hx (.tmp 7)) (by kernel_rfl)
        obtain ⟨m0, m1, m2, m3, m4, m5, m6, m7, m8⟩ := blk9 (hP.below ((drew_below _).trans hb) hPl); simp [execOp, e7, go_sem, m0, m1, m2, m3, m4, m5, m6, m7, m8])
    · exact Obl.pure ⟨by kernel_rfl, by kernel_rfl, by kernel_rfl⟩ (.agg #[.bool q.m, .int .i64 q.ty, .int .u16 (q.seq : Int), .int .u32 (q.time : Int), .int .u32 (q.ssrc : Int), .slice B1 q.csrc.length d1, .int .u16 (q.prof : Int), .slice B2 q.ext.length d2, .slice B3 q.pay.length d3]) (by kernel_rfl) (fun ev w hb hx => by
        have e8 : ev (.tmp 8) = .pointer (some ⟨P + 1, 0, none⟩) := holds_val (hx (.tmp 8)) (by kernel_rfl)
        obtain ⟨m0, m1, m2, m3, m4, m5, m6, m7, m8⟩ := blk9 (hQ.below ((drew_below _).trans hb) hQl); simp [execOp, e8, go_sem, m0, m1, m2, m3, m4, m5, m6, m7, m8])
    · exact Obl.call ⟨by kernel_rfl, by kernel_rfl, by kernel_rfl⟩ 17 #[.tmp 83, .tmp 84] _ rfl Try.f17 Try.func17 (by kernel_rfl) (by kernel_rfl) (fun ev w hb hx => by
        have e83 : ev (.tmp 83) = .agg #[.bool p.m, .int .i64 p.ty, .int .u16 (p.seq : Int), .int .u32 (p.time : Int), .int .u32 (p.ssrc : Int), .slice A1 p.csrc.length c1, .int .u16 (p.prof : Int), .slice A2 p.ext.length c2, .slice A3 p.pay.length c3] := holds_val (hx (.tmp 83)) (by kernel_rfl)
        have e84 : ev (.tmp 84) = .agg #[.bool q.m, .int .i64 q.ty, .int .u16 (q.seq : Int), .int .u32 (q.time : Int), .int .u32 (q.ssrc : Int), .slice B1 q.csrc.length d1, .int .u16 (q.prof : Int), .slice B2 q.ext.length d2, .slice B3 q.pay.length d3] := holds_val (hx (.tmp 84)) (by kernel_rfl)
        simp only [List.map_toArray, List.map_cons, List.map_nil, e83, e84]
        exact ((hD ▸ ref_same p q A1 c1 A2 c2 A3 c3 B1 d1 B2 d2 B3 d3 w (hI.on ((drew_below _).trans hb)) (hJ.on ((drew_below _).trans hb)))).mono fun _ _ hh => Val.holds (by kernel_rfl) hh)
    · exact Obl.bin ⟨by kernel_rfl, by kernel_rfl, by kernel_rfl⟩ .eql _ (.tmp 82) (.tmp 85) _ rfl (.bool D) (.bool D) (.bool true) (by kernel_rfl) (by kernel_rfl) (fun w => by simp [eqGuard, go_sem]) (by kernel_rfl)
    · exact Obl.pick trivial _ _ _ rfl true (by kernel_rfl) (by kernel_rfl)
    · exact Obl.move trivial _ (Or.inl rfl) (by kernel_rfl)
    · exact Obl.move ⟨by kernel_rfl, by kernel_rfl, by kernel_rfl⟩ _ (Or.inl rfl) (by kernel_rfl)
    · exact Obl.str (x := .tmp 89) ⟨by kernel_rfl, by kernel_rfl, by kernel_rfl⟩ 25 5 9 rfl Try.underlying25 Try.underlying5 Try.underlying9 (p.bytes) (.inr ⟨A4, L1, c4, by kernel_rfl, r4⟩) (by kernel_rfl)
    · exact Obl.move ⟨by kernel_rfl, by kernel_rfl, by kernel_rfl⟩ _ (Or.inl rfl) (by kernel_rfl)
    · exact Obl.str (x := .tmp 91) ⟨by kernel_rfl, by kernel_rfl, by kernel_rfl⟩ 25 5 9 rfl Try.underlying25 Try.underlying5 Try.underlying9 (r.bytes) (.inr ⟨A10, L3, c10, by kernel_rfl, r10⟩) (by kernel_rfl)
    · exact Obl.bin ⟨by kernel_rfl, by kernel_rfl, by kernel_rfl⟩ .neq _ (.tmp 90) (.tmp 92) _ rfl (.string ⟨(p.bytes).toArray⟩) (.string ⟨(r.bytes).toArray⟩) (.bool true) (by kernel_rfl) (by kernel_rfl) (neq_strs _ _ _ hNe _ _) (by kernel_rfl)
    · exact Obl.pick trivial _ _ _ rfl true (by kernel_rfl) (by kernel_rfl)
    · exact Obl.move trivial _ (Or.inl rfl) (by kernel_rfl)
    · exact Obl.pure ⟨by kernel_rfl, by kernel_rfl, by kernel_rfl⟩ (.agg #[.bool p.m, .int .i64 p.ty, .int .u16 (p.seq : Int), .int .u32 (p.time : Int), .int .u32 (p.ssrc : Int), .slice A1 p.csrc.length c1, .int .u16 (p.prof : Int), .slice A2 p.ext.length c2, .slice A3 p.pay.length c3]) (by kernel_rfl) (fun ev w hb hx => by
        have e7 : ev (.tmp 7) = .pointer (some ⟨P, 0, none⟩) := holds_val (hx (.tmp 7)) (by kernel_rfl)
        obtain ⟨m0, m1, m2, m3, m4, m5, m6, m7, m8⟩ := blk9 (hP.below ((drew_below _).trans hb) hPl); simp [execOp, e7, go_sem, m0, m1, m2, m3, m4, m5, m6, m7, m8])
    · exact Obl.pure ⟨by kernel_rfl, by kernel_rfl, by kernel_rfl⟩ (.agg #[.bool r.m, .int .i64 r.ty, .int .u16 (r.seq : Int), .int .u32 (r.time : Int), .int .u32 (r.ssrc : Int), .slice C1 r.csrc.length e1, .int .u16 (r.prof : Int), .slice C2 r.ext.length e2, .slice C3 r.pay.length e3]) (by kernel_rfl) (fun ev w hb hx => by
        have e13 : ev (.tmp 13) = .pointer (some ⟨w5.heap.size, 0, none⟩) := holds_val (hx (.tmp 13)) (by kernel_rfl)
        obtain ⟨m0, m1, m2, m3, m4, m5, m6, m7, m8⟩ := blk9 (hR10.below ((drew_below _).trans hb) hRl); simp [execOp, e13, go_sem, m0, m1, m2, m3, m4, m5, m6, m7, m8])
    · exact Obl.call ⟨by kernel_rfl, by kernel_rfl, by kernel_rfl⟩ 16 #[.tmp 96, .tmp 97] _ rfl Try.f16 Try.func16 (by kernel_rfl) (by kernel_rfl) (fun ev w hb hx => by
        have e96 : ev (.tmp 96) = .agg #[.bool p.m, .int .i64 p.ty, .int .u16 (p.seq : Int), .int .u32 (p.time : Int), .int .u32 (p.ssrc : Int), .slice A1 p.csrc.length c1, .int .u16 (p.prof : Int), .slice A2 p.ext.length c2, .slice A3 p.pay.length c3] := holds_val (hx (.tmp 96)) (by kernel_rfl)
        have e97 : ev (.tmp 97) = .agg #[.bool r.m, .int .i64 r.ty, .int .u16 (r.seq : Int), .int .u32 (r.time : Int), .int .u32 (r.ssrc : Int), .slice C1 r.csrc.length e1, .int .u16 (r.prof : Int), .slice C2 r.ext.length e2, .slice C3 r.pay.length e3] := holds_val (hx (.tmp 97)) (by kernel_rfl)
        simp only [List.map_toArray, List.map_cons, List.map_nil, e96, e97]
        exact ((hPR ▸ rtp_same p r A1 c1 A2 c2 A3 c3 C1 e1 C2 e2 C3 e3 w (hI.on ((drew_below _).trans hb)) (hK.on ((drew_below _).trans hb)))).mono fun _ _ hh => Val.holds (by kernel_rfl) hh)
    · exact Obl.un ⟨by kernel_rfl, by kernel_rfl, by kernel_rfl⟩ .not _ (.tmp 98) rfl (.bool false) (.bool true) (by kernel_rfl) (fun w => by simp [go_sem]) (by kernel_rfl)
    · exact Obl.pick trivial _ _ _ rfl true (by kernel_rfl) (by kernel_rfl)
    · exact Obl.move trivial _ (Or.inl rfl) (by kernel_rfl)
    · exact Obl.call ⟨by kernel_rfl, by kernel_rfl, by kernel_rfl⟩ 14 #[] _ rfl Try.f14 Try.func14 (by kernel_rfl) (by kernel_rfl) (fun ev w hb hx => by
        simp only [List.map_toArray, List.map_nil]
        exact (known_yes w).mono fun _ _ hh => hh.holds (by kernel_rfl))
    · exact Obl.pick trivial _ _ _ rfl true (by kernel_rfl) (by kernel_rfl)
    · exact Obl.move trivial _ (Or.inr rfl) (by kernel_rfl)
    intro a w4 hb hsz hdf hold hv
    have h8 : a.tmps.getD 6 undef = .bool true := holds_val (hv 37 6 (by kernel_rfl)) (by kernel_rfl)
    obtain ⟨tm, df⟩ := a
    have hdf' : df = [] := hdf
    subst hdf'
    go_wp2
    go_ret
    exact ⟨congrArg _ h8, b10.drew.trans (hb.mono b10.size)⟩
  · clear oe rp hbb hbb2
    go_upto_region 13 with (fail)
    have key : ∃ (r : Pkt) (C1 : Option Addr) (e1 : Nat) (C2 : Option Addr) (e2 : Nat) (C3 : Option Addr) (e3 : Nat), Blk (W6.setCell ⟨w5.heap.size, 3, none⟩ (.int .u32 (((p.time : Int) + 1) % 4294967296))) w5.heap.size 27 #[.bool r.m, .int .i64 r.ty, .int .u16 (r.seq : Int), .int .u32 (r.time : Int), .int .u32 (r.ssrc : Int), .slice C1 r.csrc.length e1, .int .u16 (r.prof : Int), .slice C2 r.ext.length e2, .slice C3 r.pay.length e3] ∧ IsP (W6.setCell ⟨w5.heap.size, 3, none⟩ (.int .u32 (((p.time : Int) + 1) % 4294967296))) (W6.setCell ⟨w5.heap.size, 3, none⟩ (.int .u32 (((p.time : Int) + 1) % 4294967296))).heap.size C1 e1 C2 e2 C3 e3 r ∧ r ≠ p ∧ r.right = 0 ∧ Below w5.heap.size w5 (W6.setCell ⟨w5.heap.size, 3, none⟩ (.int .u32 (((p.time : Int) + 1) % 4294967296))) := by
      have bb : Below w5.heap.size w5 (W6.setCell ⟨w5.heap.size, 3, none⟩ (.int .u32 (((p.time : Int) + 1) % 4294967296))) := Below.setCell bR (p := ⟨w5.heap.size, 3, none⟩) (Nat.le_refl _) _
      have hk2 := hI.on bb
      refine ⟨{ p with time := (p.time + 1) % 4294967296 }, A1, c1, A2, c2, A3, c3, ?_, ⟨hk2.csrc, hk2.ext, hk2.pay, ?_⟩, ?_, ?_, bb⟩
      · have := hR.set_ 3 (.int .u32 (((p.time : Int) + 1) % 4294967296))
        have ew : ((p.time : Int) + 1) % 4294967296 = (((p.time + 1) % 4294967296 : Nat) : Int) := by omega
        rw [ew] at this ⊢
        simpa using this
      · exact { hk with time := by simp only; omega }
      · intro e
        have := congrArg Pkt.time e; simp only at this; have := hk.time; omega
      · exact Pkt.ok_right _ ⟨ho.t0, ho.t1, ho.c, ho.e4, ho.pe, ho.sz⟩
    obtain ⟨r, C1, e1, C2, e2, C3, e3, hR9, hK, hne, hrr, bz⟩ := key
    generalize W6.setCell ⟨w5.heap.size, 3, none⟩ (.int .u32 (((p.time : Int) + 1) % 4294967296)) = W9 at hR9 hK bz ⊢
    clear k0 k1 k2 k3 k4 k5 k6 k7 k8 z0 z2 z3 z8 hI6 hR bR hk ho hRl6
    have b9 := b5.trans (bz.mono b5.size)
    have hP := hP.below bz hP.lt
    have hQ := hQ.below bz hQ.lt
    have r4 := r4.on bz
    have r5 := r5.on bz
    have hI := hI.on bz
    have hJ := hJ.on bz
    clear bz b5
    obtain ⟨k0, k1, k2, k3, k4, k5, k6, k7, k8⟩ := blk9 hR9
    go_wp2_with fail
    clear k0 k1 k2 k3 k4 k5 k6 k7 k8
    refine (show Calls _ _ #[.agg #[.bool r.m, .int .i64 r.ty, .int .u16 (r.seq : Int), .int .u32 (r.time : Int), .int .u32 (r.ssrc : Int), .slice C1 r.csrc.length e1, .int .u16 (r.prof : Int), .slice C2 r.ext.length e2, .slice C3 r.pay.length e3]] _ _ from rtp_bytes r C1 e1 C2 e2 C3 e3 W9 hK).mono ?_
    rintro e w10 ⟨hy, _⟩
    obtain ⟨v10, rfl, ho10, bz⟩ := hy hrr
    obtain ⟨A10, c10, rfl, r10⟩ := ho10.r8
    have b10 := b9.trans (bz.mono b9.size)
    have hP := hP.below bz hP.lt
    have hQ := hQ.below bz hQ.lt
    have hR10 := hR9.below bz hR9.lt
    have r4 := r4.on bz
    have r5 := r5.on bz
    have hI := hI.on bz
    have hJ := hJ.on bz
    have hK := hK.on bz
    clear hy bz ho10 b9
    obtain ⟨L3, hL3⟩ : ∃ L, r.bytes.length = L := ⟨_, rfl⟩
    rw [hL3] at r10 ⊢
    clear hL3 hR9
    obtain ⟨D, hD⟩ : ∃ D, samePk p q = D := ⟨_, rfl⟩
    have hDb : (p.bytes == q.bytes) = D := by
      rw [← hD, Bool.eq_iff_iff, beq_iff_eq, samePk_iff]
      exact ⟨fun e => bytes_inj p q hI.kinds hJ.kinds hrp.out hrq.out hI.csrc.2.2.1 hJ.csrc.2.2.1 e, fun e => by rw [e]⟩
    have hNe : (p.bytes != r.bytes) = true := by
      rw [bne_iff_ne]
      exact fun e => hne (bytes_inj r p hK.kinds hI.kinds hrr hrp.out hK.csrc.2.2.1 hI.csrc.2.2.1 e.symm)
    have hPR : samePk p r = false := by
      cases hs : samePk p r with
      | false => rfl
      | true => exact absurd ((samePk_iff p r).1 hs).symm hne
    have hPl := hP.lt
    have hQl := hQ.lt
    have hRl := hR10.lt
    go_upto_region 14 with (fail)
    refine wp_region_tbl [.val (.int .i64 0), .val (.bool true), .val (.bool true), .val (.int .i64 0), .val (.bool true), .val (.bool true), .val (.bool true), .val (.int .i64 0), .val (.bool true), .val (.bool true), .val (.bool true), .val (.slice A4 L1 c4), .val (.string ⟨(p.bytes).toArray⟩), .val (.slice A5 L2 c5), .val (.string ⟨(q.bytes).toArray⟩), .val (.bool D), .val (.agg #[.bool p.m, .int .i64 p.ty, .int .u16 (p.seq : Int), .int .u32 (p.time : Int), .int .u32 (p.ssrc : Int), .slice A1 p.csrc.length c1, .int .u16 (p.prof : Int), .slice A2 p.ext.length c2, .slice A3 p.pay.length c3]), .val (.agg #[.bool q.m, .int .i64 q.ty, .int .u16 (q.seq : Int), .int .u32 (q.time : Int), .int .u32 (q.ssrc : Int), .slice B1 q.csrc.length d1, .int .u16 (q.prof : Int), .slice B2 q.ext.length d2, .slice B3 q.pay.length d3]), .val (.bool D), .val (.bool true), .val (.bool true), .val (.bool true), .val (.slice A4 L1 c4), .val (.string ⟨(p.bytes).toArray⟩), .val (.slice A10 L3 c10), .val (.string ⟨(r.bytes).toArray⟩), .val (.bool true), .val (.bool true), .val (.bool true), .val (.agg #[.bool p.m, .int .i64 p.ty, .int .u16 (p.seq : Int), .int .u32 (p.time : Int), .int .u32 (p.ssrc : Int), .slice A1 p.csrc.length c1, .int .u16 (p.prof : Int), .slice A2 p.ext.length c2, .slice A3 p.pay.length c3]), .val (.agg #[.bool r.m, .int .i64 r.ty, .int .u16 (r.seq : Int), .int .u32 (r.time : Int), .int .u32 (r.ssrc : Int), .slice C1 r.csrc.length e1, .int .u16 (r.prof : Int), .slice C2 r.ext.length e2, .slice C3 r.pay.length e3]), .val (.bool false), .val (.bool true), .val (.bool true), .val (.bool true), .val (.bool true), .val (.bool true), .val (.bool true)] (by kernel_rfl) (by kernel_rfl) (by kernel_rfl) (AllObl.all ⟨?_, ?_, ?_, ?_, ?_, ?_, ?_, ?_, ?_, ?_, ?_, ?_, ?_, ?_, ?_, ?_, ?_, ?_, ?_, ?_, ?_, ?_, ?_, ?_, ?_, ?_, ?_, ?_, ?_, ?_, ?_, ?_, ?_, ?_, ?_, ?_, ?_, ?_, trivial⟩) ?_
    · exact Obl.move trivial _ (Or.inl rfl) (by kernel_rfl)
    · exact Obl.bin trivial .eql _ (.tmp 67) (.const (.int .i64 0)) _ rfl (.int .i64 0) (.int .i64 0) (.bool true) (by kernel_rfl) (by kernel_rfl) (fun w => by simp [eqGuard, go_sem]) (by kernel_rfl)
    · exact Obl.move trivial _ (Or.inl rfl) (by kernel_rfl)
    · exact Obl.move ⟨by kernel_rfl, by kernel_rfl, by kernel_rfl⟩ _ (Or.inl rfl) (by kernel_rfl)
    · exact Obl.bin ⟨by kernel_rfl, by kernel_rfl, by kernel_rfl⟩ .eql _ (.tmp 70) (.const (.int .i64 0)) _ rfl (.int .i64 0) (.int .i64 0) (.bool true) (by kernel_rfl) (by kernel_rfl) (fun w => by simp [eqGuard, go_sem]) (by kernel_rfl)
    · exact Obl.pick trivial _ _ _ rfl true (by kernel_rfl) (by kernel_rfl)
    · exact Obl.move trivial _ (Or.inl rfl) (by kernel_rfl)
    · exact Obl.move ⟨by kernel_rfl, by kernel_rfl, by kernel_rfl⟩ _ (Or.inl rfl) (by kernel_rfl)
    · exact Obl.bin ⟨by kernel_rfl, by kernel_rfl, by kernel_rfl⟩ .eql _ (.tmp 74) (.const (.int .i64 0)) _ rfl (.int .i64 0) (.int .i64 0) (.bool true) (by kernel_rfl) (by kernel_rfl) (fun w => by simp [eqGuard, go_sem]) (by kernel_rfl)
    · exact Obl.pick trivial _ _ _ rfl true (by kernel_rfl) (by kernel_rfl)
    · exact Obl.move trivial _ (Or.inl rfl) (by kernel_rfl)
    · exact Obl.move ⟨by kernel_rfl, by kernel_rfl, by kernel_rfl⟩ _ (Or.inl rfl) (by kernel_rfl)
    · exact Obl.str (x := .tmp 78) ⟨by kernel_rfl, by kernel_rfl, by kernel_rfl⟩ 25 5 9 rfl Try.underlying25 Try.underlying5 Try.underlying9 (p.bytes) (.inr ⟨A4, L1, c4, by kernel_rfl, r4⟩) (by kernel_rfl)
    · exact Obl.move ⟨by kernel_rfl, by kernel_rfl, by kernel_rfl⟩ _ (Or.inl rfl) (by kernel_rfl)
    · exact Obl.str (x := .tmp 80) ⟨by kernel_rfl, by kernel_rfl, by kernel_rfl⟩ 25 5 9 rfl Try.underlying25 Try.underlying5 Try.underlying9 (q.bytes) (.inr ⟨A5, L2, c5, by kernel_rfl, r5⟩) (by kernel_rfl)
    · exact Obl.bin ⟨by kernel_rfl, by kernel_rfl, by kernel_rfl⟩ .eql _ (.tmp 79) (.tmp 81) _ rfl (.string ⟨(p.bytes).toArray⟩) (.string ⟨(q.bytes).toArray⟩) (.bool D) (by kernel_rfl) (by kernel_rfl) (eql_strs _ _ _ hDb _ _) (by kernel_rfl)
    · exact Obl.pure ⟨by kernel_rfl, by kernel_rfl, by kernel_rfl⟩ (.agg #[.bool p.m, .int .i64 p.ty, .int .u16 (p.seq : Int), .int .u32 (p.time : Int), .int .u32 (p.ssrc : Int), .slice A1 p.csrc.length c1, .int .u16 (p.prof : Int), .slice A2 p.ext.length c2, .slice A3 p.pay.length c3]) (by kernel_rfl) (fun ev w hb hx => by
        have e7 : ev (.tmp 7) = .pointer (some ⟨P, 0, none⟩) := holds_val (hx (.tmp 7)) (by kernel_rfl)
        obtain ⟨m0, m1, m2, m3, m4, m5, m6, m7, m8⟩ := blk9 (hP.below ((drew_below _).trans hb) hPl); simp [execOp, e7, go_sem, m0, m1, m2, m3, m4, m5, m6, m7, m8])
    · exact Obl.pure ⟨by kernel_rfl, by kernel_rfl, by kernel_rfl⟩ (.agg #[.bool q.m, .int .i64 q.ty, .int .u16 (q.seq : Int), .int .u32 (q.time : Int), .int .u32 (q.ssrc : Int), .slice B1 q.csrc.length d1, .int .u16 (q.prof : Int), .slice B2 q.ext.length d2, .slice B3 q.pay.length d3]) (by kernel_rfl) (fun ev w hb hx => by
        have e8 : ev (.tmp 8) = .pointer (some ⟨P + 1, 0, none⟩) := holds_val (hx (.tmp 8)) (by kernel_rfl)
        obtain ⟨m0, m1, m2, m3, m4, m5, m6, m7, m8⟩ := blk9 (hQ.below ((drew_below _).trans hb) hQl); simp [execOp, e8, go_sem, m0, m1, m2, m3, m4, m5, m6, m7, m8])
    · exact Obl.call ⟨by kernel_rfl, by kernel_rfl, by kernel_rfl⟩ 17 #[.tmp 83, .tmp 84] _ rfl Try.f17 Try.func17 (by kernel_rfl) (by kernel_rfl) (fun ev w hb hx => by
        have e83 : ev (.tmp 83) = .agg #[.bool p.m, .int .i64 p.ty, .int .u16 (p.seq : Int), .int .u32 (p.time : Int), .int .u32 (p.ssrc : Int), .slice A1 p.csrc.length c1, .int .u16 (p.prof : Int), .slice A2 p.ext.length c2, .slice A3 p.pay.length c3] := holds_val (hx (.tmp 83)) (by kernel_rfl)
        have e84 : ev (.tmp 84) = .agg #[.bool q.m, .int .i64 q.ty, .int .u16 (q.seq : Int), .int .u32 (q.time : Int), .int .u32 (q.ssrc : Int), .slice B1 q.csrc.length d1, .int .u16 (q.prof : Int), .slice B2 q.ext.length d2, .slice B3 q.pay.length d3] := holds_val (hx (.tmp 84)) (by kernel_rfl)
        simp only [List.map_toArray, List.map_cons, List.map_nil, e83, e84]
        exact ((hD ▸ ref_same p q A1 c1 A2 c2 A3 c3 B1 d1 B2 d2 B3 d3 w (hI.on ((drew_below _).trans hb)) (hJ.on ((drew_below _).trans hb)))).mono fun _ _ hh => Val.holds (by kernel_rfl) hh)
    · exact Obl.bin ⟨by kernel_rfl, by kernel_rfl, by kernel_rfl⟩ .eql _ (.tmp 82) (.tmp 85) _ rfl (.bool D) (.bool D) (.bool true) (by kernel_rfl) (by kernel_rfl) (fun w => by simp [eqGuard, go_sem]) (by kernel_rfl)
    · exact Obl.pick trivial _ _ _ rfl true (by kernel_rfl) (by kernel_rfl)
    · exact Obl.move trivial _ (Or.inl rfl) (by kernel_rfl)
    · exact Obl.move ⟨by kernel_rfl, by kernel_rfl, by kernel_rfl⟩ _ (Or.inl rfl) (by kernel_rfl)
    · exact Obl.str (x := .tmp 89) ⟨by kernel_rfl, by kernel_rfl, by kernel_rfl⟩ 25 5 9 rfl Try.underlying25 Try.underlying5 Try.underlying9 (p.bytes) (.inr ⟨A4, L1, c4, by kernel_rfl, r4⟩) (by kernel_rfl)
    · exact Obl.move ⟨by kernel_rfl, by kernel_rfl, by kernel_rfl⟩ _ (Or.inl rfl) (by kernel_rfl)
    · exact Obl.str (x := .tmp 91) ⟨by kernel_rfl, by kernel_rfl, by kernel_rfl⟩ 25 5 9 rfl Try.underlying25 Try.underlying5 Try.underlying9 (r.bytes) (.inr ⟨A10, L3, c10, by kernel_rfl, r10⟩) (by kernel_rfl)
    · exact Obl.bin ⟨by kernel_rfl, by kernel_rfl, by kernel_rfl⟩ .neq _ (.tmp 90) (.tmp 92) _ rfl (.string ⟨(p.bytes).toArray⟩) (.string ⟨(r.bytes).toArray⟩) (.bool true) (by kernel_rfl) (by kernel_rfl) (neq_strs _ _ _ hNe _ _) (by kernel_rfl)
    · exact Obl.pick trivial _ _ _ rfl true (by kernel_rfl) (by kernel_rfl)
    · exact Obl.move trivial _ (Or.inl rfl) (by kernel_rfl)
    · exact Obl.pure ⟨by kernel_rfl, by kernel_rfl, by kernel_rfl⟩ (.agg #[.bool p.m, .int .i64 p.ty, .int .u16 (p.seq : Int), .int .u32 (p.time : Int), .int .u32 (p.ssrc : Int), .slice A1 p.csrc.length c1, .int .u16 (p.prof : Int), .slice A2 p.ext.length c2, .slice A3 p.pay.length c3]) (by kernel_rfl) (fun ev w hb hx => by
        have e7 : ev (.tmp 7) = .pointer (some ⟨P, 0, none⟩) := holds_val (hx (.tmp 7)) (by kernel_rfl)
        obtain ⟨m0, m1, m2, m3, m4, m5, m6, m7, m8⟩ := blk9 (hP.below ((drew_below _).trans hb) hPl); simp [execOp, e7, go_sem, m0, m1, m2, m3, m4, m5, m6, m7, m8])
    · exact Obl.pure ⟨by kernel_rfl, by kernel_rfl, by kernel_rfl⟩ (.agg #[.bool r.m, .int .i64 r.ty, .int .u16 (r.seq : Int), .int .u32 (r.time : Int), .int .u32 (r.ssrc : Int), .slice C1 r.csrc.length e1, .int .u16 (r.prof : Int), .slice C2 r.ext.length e2, .slice C3 r.pay.length e3]) (by kernel_rfl) (fun ev w hb hx => by
        have e13 : ev (.tmp 13) = .pointer (some ⟨w5.heap.size, 0, none⟩) := holds_val (hx (.tmp 13)) (by kernel_rfl)
        obtain ⟨m0, m1, m2, m3, m4, m5, m6, m7, m8⟩ := blk9 (hR10.below ((drew_below _).trans hb) hRl); simp [execOp, e13, go_sem, m0, m1, m2, m3, m4, m5, m6, m7, m8])
    · exact Obl.call ⟨by kernel_rfl, by kernel_rfl, by kernel_rfl⟩ 16 #[.tmp 96, .tmp 97] _ rfl Try.f16 Try.func16 (by kernel_rfl) (by kernel_rfl) (fun ev w hb hx => by
        have e96 : ev (.tmp 96) = .agg #[.bool p.m, .int .i64 p.ty, .int .u16 (p.seq : Int), .int .u32 (p.time : Int), .int .u32 (p.ssrc : Int), .slice A1 p.csrc.length c1, .int .u16 (p.prof : Int), .slice A2 p.ext.length c2, .slice A3 p.pay.length c3] := holds_val (hx (.tmp 96)) (by kernel_rfl)
        have e97 : ev (.tmp 97) = .agg #[.bool r.m, .int .i64 r.ty, .int .u16 (r.seq : Int), .int .u32 (r.time : Int), .int .u32 (r.ssrc : Int), .slice C1 r.csrc.length e1, .int .u16 (r.prof : Int), .slice C2 r.ext.length e2, .slice C3 r.pay.length e3] := holds_val (hx (.tmp 97)) (by kernel_rfl)
        simp only [List.map_toArray, List.map_cons, List.map_nil, e96, e97]
        exact ((hPR ▸ rtp_same p r A1 c1 A2 c2 A3 c3 C1 e1 C2 e2 C3 e3 w (hI.on ((drew_below _).trans hb)) (hK.on ((drew_below _).trans hb)))).mono fun _ _ hh => Val.holds (by kernel_rfl) hh)
    · exact Obl.un ⟨by kernel_rfl, by kernel_rfl, by kernel_rfl⟩ .not _ (.tmp 98) rfl (.bool false) (.bool true) (by kernel_rfl) (fun w => by simp [go_sem]) (by kernel_rfl)
    · exact Obl.pick trivial _ _ _ rfl true (by kernel_rfl) (by kernel_rfl)
    · exact Obl.move trivial _ (Or.inl rfl) (by kernel_rfl)
    · exact Obl.call ⟨by kernel_rfl, by kernel_rfl, by kernel_rfl⟩ 14 #[] _ rfl Try.f14 Try.func14 (by kernel_rfl) (by kernel_rfl) (fun ev w hb hx => by
        simp only [List.map_toArray, List.map_nil]
        exact (known_yes w).mono fun _ _ hh => hh.holds (by kernel_rfl))
    · exact Obl.pick trivial _ _ _ rfl true (by kernel_rfl) (by kernel_rfl)
    · exact Obl.move trivial _ (Or.inr rfl) (by kernel_rfl)
    intro a w4 hb hsz hdf hold hv
    have h8 : a.tmps.getD 6 undef = .bool true := holds_val (hv 37 6 (by kernel_rfl)) (by kernel_rfl)
    obtain ⟨tm, df⟩ := a
    have hdf' : df = [] := hdf
    subst hdf'
    go_wp2
    go_ret
    exact ⟨congrArg _ h8, b10.drew.trans (hb.mono b10.size)⟩
  · clear oe rp hbb hbb2
    go_upto_region 13 with (fail)
    have key : ∃ (r : Pkt) (C1 : Option Addr) (e1 : Nat) (C2 : Option Addr) (e2 : Nat) (C3 : Option Addr) (e3 : Nat), Blk (W6.setCell ⟨w5.heap.size, 0, none⟩ (.bool !p.m)) w5.heap.size 27 #[.bool r.m, .int .i64 r.ty, .int .u16 (r.seq : Int), .int .u32 (r.time : Int), .int .u32 (r.ssrc : Int), .slice C1 r.csrc.length e1, .int .u16 (r.prof : Int), .slice C2 r.ext.length e2, .slice C3 r.pay.length e3] ∧ IsP (W6.setCell ⟨w5.heap.size, 0, none⟩ (.bool !p.m)) (W6.setCell ⟨w5.heap.size, 0, none⟩ (.bool !p.m)).heap.size C1 e1 C2 e2 C3 e3 r ∧ r ≠ p ∧ r.right = 0 ∧ Below w5.heap.size w5 (W6.setCell ⟨w5.heap.size, 0, none⟩ (.bool !p.m)) := by
      have bb : Below w5.heap.size w5 (W6.setCell ⟨w5.heap.size, 0, none⟩ (.bool !p.m)) := Below.setCell bR (p := ⟨w5.heap.size, 0, none⟩) (Nat.le_refl _) _
      have hk2 := hI.on bb
      refine ⟨{ p with m := !p.m }, A1, c1, A2, c2, A3, c3, ?_, ⟨hk2.csrc, hk2.ext, hk2.pay, ?_⟩, ?_, ?_, bb⟩
      · have := hR.set_ 0 (.bool !p.m)
        simpa using this
      · exact ⟨hk.ty, hk.seq, hk.time, hk.ssrc, hk.prof, hk.csrc, hk.ext, hk.pay⟩
      · intro e
        have := congrArg Pkt.m e; simp at this
      · exact Pkt.ok_right _ ⟨ho.t0, ho.t1, ho.c, ho.e4, ho.pe, ho.sz⟩
    obtain ⟨r, C1, e1, C2, e2, C3, e3, hR9, hK, hne, hrr, bz⟩ := key
    generalize W6.setCell ⟨w5.heap.size, 0, none⟩ (.bool !p.m) = W9 at hR9 hK bz ⊢
    clear k0 k1 k2 k3 k4 k5 k6 k7 k8 z0 z2 z3 z8 hI6 hR bR hk ho hRl6
    have b9 := b5.trans (bz.mono b5.size)
    have hP := hP.below bz hP.lt
    have hQ := hQ.below bz hQ.lt
    have r4 := r4.on bz
    have r5 := r5.on bz
    have hI := hI.on bz
    have hJ := hJ.on bz
    clear bz b5
    obtain ⟨k0, k1, k2, k3, k4, k5, k6, k7, k8⟩ := blk9 hR9
    go_wp2_with fail
    clear k0 k1 k2 k3 k4 k5 k6 k7 k8
    refine (show Calls _ _ #[.agg #[.bool r.m, .int .i64 r.ty, .int .u16 (r.seq : Int), .int .u32 (r.time : Int), .int .u32 (r.ssrc : Int), .slice C1 r.csrc.length e1, .int .u16 (r.prof : Int), .slice C2 r.ext.length e2, .slice C3 r.pay.length e3]] _ _ from rtp_bytes r C1 e1 C2 e2 C3 e3 W9 hK).mono ?_
    rintro e w10 ⟨hy, _⟩
    obtain ⟨v10, rfl, ho10, bz⟩ := hy hrr
    obtain ⟨A10, c10, rfl, r10⟩ := ho10.r8
    have b10 := b9.trans (bz.mono b9.size)
    have hP := hP.below bz hP.lt
    have hQ := hQ.below bz hQ.lt
    have hR10 := hR9.below bz hR9.lt
    have r4 := r4.on bz
    have r5 := r5.on bz
    have hI := hI.on bz
    have hJ := hJ.on bz
    have hK := hK.on bz
    clear hy bz ho10 b9
    obtain ⟨L3, hL3⟩ : ∃ L, r.bytes.length = L := ⟨_, rfl⟩
    rw [hL3] at r10 ⊢
    clear hL3 hR9
    obtain ⟨D, hD⟩ : ∃ D, samePk p q = D := ⟨_, rfl⟩
    have hDb : (p.bytes == q.bytes) = D := by
      rw [← hD, Bool.eq_iff_iff, beq_iff_eq, samePk_iff]
      exact ⟨fun e => bytes_inj p q hI.kinds hJ.kinds hrp.out hrq.out hI.csrc.2.2.1 hJ.csrc.2.2.1 e, fun e => by rw [e]⟩
    have hNe : (p.bytes != r.bytes) = true := by
      rw [bne_iff_ne]
      exact fun e => hne (bytes_inj r p hK.kinds hI.kinds hrr hrp.out hK.csrc.2.2.1 hI.csrc.2.2.1 e.symm)
    have hPR : samePk p r = false := by
      cases hs : samePk p r with
      | false => rfl
      | true => exact absurd ((samePk_iff p r).1 hs).symm hne
    have hPl := hP.lt
    have hQl := hQ.lt
    have hRl := hR10.lt
    go_upto_region 14 with (fail)
    refine wp_region_tbl [.val (.int .i64 0), .val (.bool true), .val (.bool true), .val (.int .i64 0), .val (.bool true), .val (.bool true), .val (.bool true), .val (.int .i64 0), .val (.bool true), .val (.bool true), .val (.bool true), .val (.slice A4 L1 c4), .val (.string ⟨(p.bytes).toArray⟩), .val (.slice A5 L2 c5), .val (.string ⟨(q.bytes).toArray⟩), .val (.bool D), .val (.agg #[.bool p.m, .int .i64 p.ty, .int .u16 (p.seq : Int), .int .u32 (p.time : Int), .int .u32 (p.ssrc : Int), .slice A1 p.csrc.length c1, .int .u16 (p.prof : Int), .slice A2 p.ext.length c2, .slice A3 p.pay.length c3]), .val (.agg #[.bool q.m, .int .i64 q.ty, .int .u16 (q.seq : Int), .int .u32 (q.time : Int), .int .u32 (q.ssrc : Int), .slice B1 q.csrc.length d1, .int .u16 (q.prof : Int), .slice B2 q.ext.length d2, .slice B3 q.pay.length d3]), .val (.bool D), .val (.bool true), .val (.bool true), .val (.bool true), .val (.slice A4 L1 c4), .val (.string ⟨(p.bytes).toArray⟩), .val (.slice A10 L3 c10), .val (.string ⟨(r.bytes).toArray⟩), .val (.bool true), .val (.bool true), .val (.bool true), .val (.agg #[.bool p.m, .int .i64 p.ty, .int .u16 (p.seq : Int), .int .u32 (p.time : Int), .int .u32 (p.ssrc : Int), .slice A1 p.csrc.length c1, .int .u16 (p.prof : Int), .slice A2 p.ext.length c2, .slice A3 p.pay.length c3]), .val (.agg #[.bool r.m, .int .i64 r.ty, .int .u16 (r.seq : Int), .int .u32 (r.time : Int), .int .u32 (r.ssrc : Int), .slice C1 r.csrc.length e1, .int .u16 (r.prof : Int), .slice C2 r.ext.length e2, .slice C3 r.pay.length e3]), .val (.bool false), .val (.bool true), .val (.bool true), .val (.bool true), .val (.bool true), .val (.bool true), .val (.bool true)] (by kernel_rfl) (by kernel_rfl) (by kernel_rfl) (AllObl.all ⟨?_, ?_, ?_, ?_, ?_, ?_, ?_, ?_, ?_, ?_, ?_, ?_, ?_, ?_, ?_, ?_, ?_, ?_, ?_, ?_, ?_, ?_, ?_, ?_, ?_, ?_, ?_, ?_, ?_, ?_, ?_, ?_, ?_, ?_, ?_, ?_, ?_, ?_, trivial⟩) ?_
    · exact Obl.move trivial _ (Or.inl rfl) (by kernel_rfl)
    · exact Obl.bin trivial .eql _ (.tmp 67) (.const (.int .i64 0)) _ rfl (.int .i64 0) (.int .i64 0) (.bool true) (by kernel_rfl) (by kernel_rfl) (fun w => by simp [eqGuard, go_sem]) (by kernel_rfl)
    · exact Obl.move trivial _ (Or.inl rfl) (by kernel_rfl)
    · exact Obl.move ⟨by kernel_rfl, by kernel_rfl, by kernel_rfl⟩ _ (Or.inl rfl) (by kernel_rfl)
    · exact Obl.bin ⟨by kernel_rfl, by kernel_rfl, by kernel_rfl⟩ .eql _ (.tmp 70) (.const (.int .i64 0)) _ rfl (.int .i64 0) (.int .i64 0) (.bool true) (by kernel_rfl) (by kernel_rfl) (fun w => by simp [eqGuard, go_sem]) (by kernel_rfl)
    · exact Obl.pick trivial _ _ _ rfl true (by kernel_rfl) (by kernel_rfl)
    · exact Obl.move trivial _ (Or.inl rfl) (by kernel_rfl)
    · exact Obl.move ⟨by kernel_rfl, by kernel_rfl, by kernel_rfl⟩ _ (Or.inl rfl) (by kernel_rfl)
    · exact Obl.bin ⟨by kernel_rfl, by kernel_rfl, by kernel_rfl⟩ .eql _ (.tmp 74) (.const (.int .i64 0)) _ rfl (.int .i64 0) (.int .i64 0) (.bool true) (by kernel_rfl) (by kernel_rfl) (fun w => by simp [eqGuard, go_sem]) (by kernel_rfl)
    · exact Obl.pick trivial _ _ _ rfl true (by kernel_rfl) (by kernel_rfl)
    · exact Obl.move trivial _ (Or.inl rfl) (by kernel_rfl)
    · exact Obl.move ⟨by kernel_rfl, by kernel_rfl, by kernel_rfl⟩ _ (Or.inl rfl) (by kernel_rfl)
    · exact Obl.str (x := .tmp 78) ⟨by kernel_rfl, by kernel_rfl, by kernel_rfl⟩ 25 5 9 rfl Try.underlying25 Try.underlying5 Try.underlying9 (p.bytes) (.inr ⟨A4, L1, c4, by kernel_rfl, r4⟩) (by kernel_rfl)
    · exact Obl.move ⟨by kernel_rfl, by kernel_rfl, by kernel_rfl⟩ _ (Or.inl rfl) (by kernel_rfl)
    · exact Obl.str (x := .tmp 80) ⟨by kernel_rfl, by kernel_rfl, by kernel_rfl⟩ 25 5 9 rfl Try.underlying25 Try.underlying5 Try.underlying9 (q.bytes) (.inr ⟨A5, L2, c5, by kernel_rfl, r5⟩) (by kernel_rfl)
    · exact Obl.bin ⟨by kernel_rfl, by kernel_rfl, by kernel_rfl⟩ .eql _ (.tmp 79) (.tmp 81) _ rfl (.string ⟨(p.bytes).toArray⟩) (.string ⟨(q.bytes).toArray⟩) (.bool D) (by kernel_rfl) (by kernel_rfl) (eql_strs _ _ _ hDb _ _) (by kernel_rfl)
    · exact Obl.pure ⟨by kernel_rfl, by kernel_rfl, by kernel_rfl⟩ (.agg #[.bool p.m, .int .i64 p.ty, .int .u16 (p.seq : Int), .int .u32 (p.time : Int), .int .u32 (p.ssrc : Int), .slice A1 p.csrc.length c1, .int .u16 (p.prof : Int), .slice A2 p.ext.length c2, .slice A3 p.pay.length c3]) (by kernel_rfl) (fun ev w hb hx => by
        have e7 : ev (.tmp 7) = .pointer (some ⟨P, 0, none⟩) := holds_val (hx (.tmp 7)) (by kernel_rfl)
        obtain ⟨m0, m1, m2, m3, m4, m5, m6, m7, m8⟩ := blk9 (hP.below ((drew_below _).trans hb) hPl); simp [execOp, e7, go_sem, m0, m1, m2, m3, m4, m5, m6, m7, m8])
    · exact Obl.pure ⟨by kernel_rfl, by kernel_rfl, by kernel_rfl⟩ (.agg #[.bool q.m, .int .i64 q.ty, .int .u16 (q.seq : Int), .int .u32 (q.time : Int), .int .u32 (q.ssrc : Int), .slice B1 q.csrc.length d1, .int .u16 (q.prof : Int), .slice B2 q.ext.length d2, .slice B3 q.pay.length d3]) (by kernel_rfl) (fun ev w hb hx => by
        have e8 : ev (.tmp 8) = .pointer (some ⟨P + 1, 0, none⟩) := holds_val (hx (.tmp 8)) (by kernel_rfl)
        obtain ⟨m0, m1, m2, m3, m4, m5, m6, m7, m8⟩ := blk9 (hQ.below ((drew_below _).trans hb) hQl); simp [execOp, e8, go_sem, m0, m1, m2, m3, m4, m5, m6, m7, m8])
    · exact Obl.call ⟨by kernel_rfl, by kernel_rfl, by kernel_rfl⟩ 17 #[.tmp 83, .tmp 84] _ rfl Try.f17 Try.func17 (by kernel_rfl) (by kernel_rfl) (fun ev w hb hx => by
        have e83 : ev (.tmp 83) = .agg #[.bool p.m, .int .i64 p.ty, .int .u16 (p.seq : Int), .int .u32 (p.time : Int), .int .u32 (p.ssrc : Int), .slice A1 p.csrc.length c1, .int .u16 (p.prof : Int), .slice A2 p.ext.length c2, .slice A3 p.pay.length c3] := holds_val (hx (.tmp 83)) (by kernel_rfl)
        have e84 : ev (.tmp 84) = .agg #[.bool q.m, .int .i64 q.ty, .int .u16 (q.seq : Int), .int .u32 (q.time : Int), .int .u32 (q.ssrc : Int), .slice B1 q.csrc.length d1, .int .u16 (q.prof : Int), .slice B2 q.ext.length d2, .slice B3 q.pay.length d3] := holds_val (hx (.tmp 84)) (by kernel_rfl)
        simp only [List.map_toArray, List.map_cons, List.map_nil, e83, e84]
        exact ((hD ▸ ref_same p q A1 c1 A2 c2 A3 c3 B1 d1 B2 d2 B3 d3 w (hI.on ((drew_below _).trans hb)) (hJ.on ((drew_below _).trans hb)))).mono fun _ _ hh => Val.holds (by kernel_rfl) hh)
    · exact Obl.bin ⟨by kernel_rfl, by kernel_rfl, by kernel_rfl⟩ .eql _ (.tmp 82) (.tmp 85) _ rfl (.bool D) (.bool D) (.bool true) (by kernel_rfl) (by kernel_rfl) (fun w => by simp [eqGuard, go_sem]) (by kernel_rfl)
    · exact Obl.pick trivial _ _ _ rfl true (by kernel_rfl) (by kernel_rfl)
    · exact Obl.move trivial _ (Or.inl rfl) (by kernel_rfl)
    · exact Obl.move ⟨by kernel_rfl, by kernel_rfl, by kernel_rfl⟩ _ (Or.inl rfl) (by kernel_rfl)
    · exact Obl.str (x := .tmp 89) ⟨by kernel_rfl, by kernel_rfl, by kernel_rfl⟩ 25 5 9 rfl Try.underlying25 Try.underlying5 Try.underlying9 (p.bytes) (.inr ⟨A4, L1, c4, by kernel_rfl, r4⟩) (by kernel_rfl)
    · exact Obl.move ⟨by kernel_rfl, by kernel_rfl, by kernel_rfl⟩ _ (Or.inl rfl) (by kernel_rfl)
    · exact Obl.str (x := .tmp 91) ⟨by kernel_rfl, by kernel_rfl, by kernel_rfl⟩ 25 5 9 rfl Try.underlying25 Try.underlying5 Try.underlying9 (r.bytes) (.inr ⟨A10, L3, c10, by kernel_rfl, r10⟩) (by kernel_rfl)
    · exact Obl.bin ⟨by kernel_rfl, by kernel_rfl, by kernel_rfl⟩ .neq _ (.tmp 90) (.tmp 92) _ rfl (.string ⟨(p.bytes).toArray⟩) (.string ⟨(r.bytes).toArray⟩) (.bool true) (by kernel_rfl) (by kernel_rfl) (neq_strs _ _ _ hNe _ _) (by kernel_rfl)
    · exact Obl.pick trivial _ _ _ rfl true (by kernel_rfl) (by kernel_rfl)
    · exact Obl.move trivial _ (Or.inl rfl) (by kernel_rfl)
    · exact Obl.pure ⟨by kernel_rfl, by kernel_rfl, by kernel_rfl⟩ (.agg #[.bool p.m, .int .i64 p.ty, .int .u16 (p.seq : Int), .int .u32 (p.time : Int), .int .u32 (p.ssrc : Int), .slice A1 p.csrc.length c1, .int .u16 (p.prof : Int), .slice A2 p.ext.length c2, .slice A3 p.pay.length c3]) (by kernel_rfl) (fun ev w hb hx => by
        have e7 : ev (.tmp 7) = .pointer (some ⟨P, 0, none⟩) := holds_val (hx (.tmp 7)) (by kernel_rfl)
        obtain ⟨m0, m1, m2, m3, m4, m5, m6, m7, m8⟩ := blk9 (hP.below ((drew_below _).trans hb) hPl); simp [execOp, e7, go_sem, m0, m1, m2, m3, m4, m5, m6, m7, m8])
    · exact Obl.pure ⟨by kernel_rfl, by kernel_rfl, by kernel_rfl⟩ (.agg #[.bool r.m, .int .i64 r.ty, .int .u16 (r.seq : Int), .int .u32 (r.time : Int), .int .u32 (r.ssrc : Int), .slice C1 r.csrc.length e1, .int .u16 (r.prof : Int), .slice C2 r.ext.length e2, .slice C3 r.pay.length e3]) (by kernel_rfl) (fun ev w hb hx => by
        have e13 : ev (.tmp 13) = .pointer (some ⟨w5.heap.size, 0, none⟩) := holds_val (hx (.tmp 13)) (by kernel_rfl)
        obtain ⟨m0, m1, m2, m3, m4, m5, m6, m7, m8⟩ := blk9 (hR10.below ((drew_below _).trans hb) hRl); simp [execOp, e13, go_sem, m0, m1, m2, m3, m4, m5, m6, m7, m8])
    · exact Obl.call ⟨by kernel_rfl, by kernel_rfl, by kernel_rfl⟩ 16 #[.tmp 96, .tmp 97] _ rfl Try.f16 Try.func16 (by kernel_rfl) (by kernel_rfl) (fun ev w hb hx => by
        have e96 : ev (.tmp 96) = .agg #[.bool p.m, .int .i64 p.ty, .int .u16 (p.seq : Int), .int .u32 (p.time : Int), .int .u32 (p.ssrc : Int), .slice A1 p.csrc.length c1, .int .u16 (p.prof : Int), .slice A2 p.ext.length c2, .slice A3 p.pay.length c3] := holds_val (hx (.tmp 96)) (by kernel_rfl)
        have e97 : ev (.tmp 97) = .agg #[.bool r.m, .int .i64 r.ty, .int .u16 (r.seq : Int), .int .u32 (r.time : Int), .int .u32 (r.ssrc : Int), .slice C1 r.csrc.length e1, .int .u16 (r.prof : Int), .slice C2 r.ext.length e2, .slice C3 r.pay.length e3] := holds_val (hx (.tmp 97)) (by kernel_rfl)
        simp only [List.map_toArray, List.map_cons, List.map_nil, e96, e97]
        exact ((hPR ▸ rtp_same p r A1 c1 A2 c2 A3 c3 C1 e1 C2 e2 C3 e3 w (hI.on ((drew_below _).trans hb)) (hK.on ((drew_below _).trans hb)))).mono fun _ _ hh => Val.holds (by kernel_rfl) hh)
    · exact Obl.un ⟨by kernel_rfl, by kernel_rfl, by kernel_rfl⟩ .not _ (.tmp 98) rfl (.bool false) (.bool true) (by kernel_rfl) (fun w => by simp [go_sem]) (by kernel_rfl)
    · exact Obl.pick trivial _ _ _ rfl true (by kernel_rfl) (by kernel_rfl)
    · exact Obl.move trivial _ (Or.inl rfl) (by kernel_rfl)
    · exact Obl.call ⟨by kernel_rfl, by kernel_rfl, by kernel_rfl⟩ 14 #[] _ rfl Try.f14 Try.func14 (by kernel_rfl) (by kernel_rfl) (fun ev w hb hx => by
        simp only [List.map_toArray, List.map_nil]
        exact (known_yes w).mono fun _ _ hh => hh.holds (by kernel_rfl))
    · exact Obl.pick trivial _ _ _ rfl true (by kernel_rfl) (by kernel_rfl)
    · exact Obl.move trivial _ (Or.inr rfl) (by kernel_rfl)
    intro a w4 hb hsz hdf hold hv
    have h8 : a.tmps.getD 6 undef = .bool true := holds_val (hv 37 6 (by kernel_rfl)) (by kernel_rfl)
    obtain ⟨tm, df⟩ := a
    have hdf' : df = [] := hdf
    subst hdf'
    go_wp2
    go_ret
    exact ⟨congrArg _ h8, b10.drew.trans (hb.mono b10.size)⟩
  · go_upto_region 13 with (first
      | (at_builtin; (with_reducible refine wpList_append8 rfl (.tmp 37) (.tmp 39) rfl rfl W6.heap.size (.slice (some ⟨W6.heap.size, 0, none⟩) 0 0) [] (by with_unfolding_all rfl) oe W6.heap.size A3 _ c3 p.pay (by with_unfolding_all rfl) rp hbb (by simp) ?_); intro v7 w7 ha7; have o7 : Own8 w7 W6.heap.size v7 ([] ++ p.pay) := ha7.1; have z7 : W6.heap.size ≤ w7.heap.size := Nat.le_trans (by simp) ha7.2.1.size; have o7a := o7.alloc (.cells #[.int .u8 7] 5))
      | (at_builtin; (go_loud (with_reducible refine wpList_append8 rfl (.tmp 40) (.tmp 41) rfl rfl W6.heap.size v7 ([] ++ p.pay) (by with_unfolding_all rfl) o7a (w7.heap.size + 1) _ 1 1 [7] (by with_unfolding_all rfl) (by with_unfolding_all exact one_r8 w7 7 7 rfl) hbb2 (le_alloc z7 _) ?_)); intro v8 w8 ha8; have be7 := ha7.below ((Below.refl W6.heap.size W6).alloc (Nat.le_refl _) _) (by simp) oe (Nat.le_refl _); have be8 := ha8.below (be7.alloc z7 _) (le_alloc z7 _) o7a (Nat.le_refl _); have hR8 := hR.below be8 hR.lt; have y8 : w8.cell? ⟨w5.heap.size, 8, none⟩ = some (.slice A3 p.pay.length c3) := hR8.cell 8; have x8 := hR8.frozen 8; obtain ⟨A8, c8, rfl, r8⟩ := ha8.1.r8))
    have e8 : ([] ++ p.pay ++ [7] : List UInt8).length = p.pay.length + 1 := by simp
    rw [e8] at r8
    try rw [e8]
    have key : ∃ (r : Pkt) (C1 : Option Addr) (e1 : Nat) (C2 : Option Addr) (e2 : Nat) (C3 : Option Addr) (e3 : Nat), Blk (w8.setCell ⟨w5.heap.size, 8, none⟩ (.slice A8 (p.pay.length + 1) c8)) w5.heap.size 27 #[.bool r.m, .int .i64 r.ty, .int .u16 (r.seq : Int), .int .u32 (r.time : Int), .int .u32 (r.ssrc : Int), .slice C1 r.csrc.length e1, .int .u16 (r.prof : Int), .slice C2 r.ext.length e2, .slice C3 r.pay.length e3] ∧ IsP (w8.setCell ⟨w5.heap.size, 8, none⟩ (.slice A8 (p.pay.length + 1) c8)) (w8.setCell ⟨w5.heap.size, 8, none⟩ (.slice A8 (p.pay.length + 1) c8)).heap.size C1 e1 C2 e2 C3 e3 r ∧ r ≠ p ∧ r.right = 0 ∧ Below w5.heap.size w5 (w8.setCell ⟨w5.heap.size, 8, none⟩ (.slice A8 (p.pay.length + 1) c8)) := by
      have bb : Below w5.heap.size w5 (w8.setCell ⟨w5.heap.size, 8, none⟩ (.slice A8 (p.pay.length + 1) c8)) := Below.setCell (bR.trans (be8.mono bR.size)) (p := ⟨w5.heap.size, 8, none⟩) (Nat.le_refl _) _
      have hk2 := hI.on bb
      have hs8 := size_setCell w8 ⟨w5.heap.size, 8, none⟩ (.slice A8 (p.pay.length + 1) c8)
      have r8' := r8.setNot y8 (by simp) (.slice A8 (p.pay.length + 1) c8)
      rw [← hs8] at r8'
      have hq := hpl.out
      refine ⟨{ p with pay := p.pay ++ [7] }, A1, c1, A2, c2, A8, c8, ?_, ⟨hk2.csrc, hk2.ext, ?_, ?_⟩, ?_, ?_, bb⟩
      · have := hR8.set_ 8 (.slice A8 (p.pay.length + 1) c8)
        simpa using this
      · simpa using r8'
      · exact ⟨hk.ty, hk.seq, hk.time, hk.ssrc, hk.prof, hk.csrc, hk.ext, by simp; omega⟩
      · intro e
        have := congrArg (fun x => x.pay.length) e
        simp at this
      · have hsz9 := hsz.out
        refine Pkt.ok_right _ ⟨ho.t0, ho.t1, ho.c, ho.e4, ho.pe, ?_⟩
        unfold Pkt.size at hsz9 ⊢
        simp only [List.length_append, List.length_cons, List.length_nil]
        omega
    clear y8 x8 hR8 r8 ha8 ha7 o7 o7a be7 be8 e8 oe rp hbb hbb2
    obtain ⟨r, C1, e1, C2, e2, C3, e3, hR9, hK, hne, hrr, bz⟩ := key
    generalize w8.setCell ⟨w5.heap.size, 8, none⟩ (.slice A8 (p.pay.length + 1) c8) = W9 at hR9 hK bz ⊢
    clear k0 k1 k2 k3 k4 k5 k6 k7 k8 z0 z2 z3 z8 hI6 hR bR hk ho hRl6
    have b9 := b5.trans (bz.mono b5.size)
    have hP := hP.below bz hP.lt
    have hQ := hQ.below bz hQ.lt
    have r4 := r4.on bz
    have r5 := r5.on bz
    have hI := hI.on bz
    have hJ := hJ.on bz
    clear bz b5
    obtain ⟨k0, k1, k2, k3, k4, k5, k6, k7, k8⟩ := blk9 hR9
    go_wp2_with fail
    clear k0 k1 k2 k3 k4 k5 k6 k7 k8
    refine (show Calls _ _ #[.agg #[.bool r.m, .int .i64 r.ty, .int .u16 (r.seq : Int), .int .u32 (r.time : Int), .int .u32 (r.ssrc : Int), .slice C1 r.csrc.length e1, .int .u16 (r.prof : Int), .slice C2 r.ext.length e2, .slice C3 r.pay.length e3]] _ _ from rtp_bytes r C1 e1 C2 e2 C3 e3 W9 hK).mono ?_
    rintro e w10 ⟨hy, _⟩
    obtain ⟨v10, rfl, ho10, bz⟩ := hy hrr
    obtain ⟨A10, c10, rfl, r10⟩ := ho10.r8
    have b10 := b9.trans (bz.mono b9.size)
    have hP := hP.below bz hP.lt
    have hQ := hQ.below bz hQ.lt
    have hR10 := hR9.below bz hR9.lt
    have r4 := r4.on bz
    have r5 := r5.on bz
    have hI := hI.on bz
    have hJ := hJ.on bz
    have hK := hK.on bz
    clear hy bz ho10 b9
    obtain ⟨L3, hL3⟩ : ∃ L, r.bytes.length = L := ⟨_, rfl⟩
    rw [hL3] at r10 ⊢
    clear hL3 hR9
    obtain ⟨D, hD⟩ : ∃ D, samePk p q = D := ⟨_, rfl⟩
    have hDb : (p.bytes == q.bytes) = D := by
      rw [← hD, Bool.eq_iff_iff, beq_iff_eq, samePk_iff]
      exact ⟨fun e => bytes_inj p q hI.kinds hJ.kinds hrp.out hrq.out hI.csrc.2.2.1 hJ.csrc.2.2.1 e, fun e => by rw [e]⟩
    have hNe : (p.bytes != r.bytes) = true := by
      rw [bne_iff_ne]
      exact fun e => hne (bytes_inj r p hK.kinds hI.kinds hrr hrp.out hK.csrc.2.2.1 hI.csrc.2.2.1 e.symm)
    have hPR : samePk p r = false := by
      cases hs : samePk p r with
      | false => rfl
      | true => exact absurd ((samePk_iff p r).1 hs).symm hne
    have hPl := hP.lt
    have hQl := hQ.lt
    have hRl := hR10.lt
    go_upto_region 14 with (fail)
    refine wp_region_tbl [.val (.int .i64 0), .val (.bool true), .val (.bool true), .val (.int .i64 0), .val (.bool true), .val (.bool true), .val (.bool true), .val (.int .i64 0), .val (.bool true), .val (.bool true), .val (.bool true), .val (.slice A4 L1 c4), .val (.string ⟨(p.bytes).toArray⟩), .val (.slice A5 L2 c5), .val (.string ⟨(q.bytes).toArray⟩), .val (.bool D), .val (.agg #[.bool p.m, .int .i64 p.ty, .int .u16 (p.seq : Int), .int .u32 (p.time : Int), .int .u32 (p.ssrc : Int), .slice A1 p.csrc.length c1, .int .u16 (p.prof : Int), .slice A2 p.ext.length c2, .slice A3 p.pay.length c3]), .val (.agg #[.bool q.m, .int .i64 q.ty, .int .u16 (q.seq : Int), .int .u32 (q.time : Int), .int .u32 (q.ssrc : Int), .slice B1 q.csrc.length d1, .int .u16 (q.prof : Int), .slice B2 q.ext.length d2, .slice B3 q.pay.length d3]), .val (.bool D), .val (.bool true), .val (.bool true), .val (.bool true), .val (.slice A4 L1 c4), .val (.string ⟨(p.bytes).toArray⟩), .val (.slice A10 L3 c10), .val (.string ⟨(r.bytes).toArray⟩), .val (.bool true), .val (.bool true), .val (.bool true), .val (.agg #[.bool p.m, .int .i64 p.ty, .int .u16 (p.seq : Int), .int .u32 (p.time : Int), .int .u32 (p.ssrc : Int), .slice A1 p.csrc.length c1, .int .u16 (p.prof : Int), .slice A2 p.ext.length c2, .slice A3 p.pay.length c3]), .val (.agg #[.bool r.m, .int .i64 r.ty, .int .u16 (r.seq : Int), .int .u32 (r.time : Int), .int .u32 (r.ssrc : Int), .slice C1 r.csrc.length e1, .int .u16 (r.prof : Int), .slice C2 r.ext.length e2, .slice C3 r.pay.length e3]), .val (.bool false), .val (.bool true), .val (.bool true), .val (.bool true), .val (.bool true), .val (.bool true), .val (.bool true)] (by kernel_rfl) (by kernel_rfl) (by kernel_rfl) (AllObl.all ⟨?_, ?_, ?_, ?_, ?_, ?_, ?_, ?_, ?_, ?_, ?_, ?_, ?_, ?_, ?_, ?_, ?_, ?_, ?_, ?_, ?_, ?_, ?_, ?_, ?_, ?_, ?_, ?_, ?_, ?_, ?_, ?_, ?_, ?_, ?_, ?_, ?_, ?_, trivial⟩) ?_
    · exact Obl.move trivial _ (Or.inl rfl) (by kernel_rfl)
    · exact Obl.bin trivial .eql _ (.tmp 67) (.const (.int .i64 0)) _ rfl (.int .i64 0) (.int .i64 0) (.bool true) (by kernel_rfl) (by kernel_rfl) (fun w => by simp [eqGuard, go_sem]) (by kernel_rfl)
    · exact Obl.move trivial _ (Or.inl rfl) (by kernel_rfl)
    · exact Obl.move ⟨by kernel_rfl, by kernel_rfl, by kernel_rfl⟩ _ (Or.inl rfl) (by kernel_rfl)
    · exact Obl.bin ⟨by kernel_rfl, by kernel_rfl, by kernel_rfl⟩ .eql _ (.tmp 70) (.const (.int .i64 0)) _ rfl (.int .i64 0) (.int .i64 0) (.bool true) (by kernel_rfl) (by kernel_rfl) (fun w => by simp [eqGuard, go_sem]) (by kernel_rfl)
    · exact Obl.pick trivial _ _ _ rfl true (by kernel_rfl) (by kernel_rfl)
    · exact Obl.move trivial _ (Or.inl rfl) (by kernel_rfl)
    · exact Obl.move ⟨by kernel_rfl, by kernel_rfl, by kernel_rfl⟩ _ (Or.inl rfl) (by kernel_rfl)
    · exact Obl.bin ⟨by kernel_rfl, by kernel_rfl, by kernel_rfl⟩ .eql _ (.tmp 74) (.const (.int .i64 0)) _ rfl (.int .i64 0) (.int .i64 0) (.bool true) (by kernel_rfl) (by kernel_rfl) (fun w => by simp [eqGuard, go_sem]) (by kernel_rfl)
    · exact Obl.pick trivial _ _ _ rfl true (by kernel_rfl) (by kernel_rfl)
    · exact Obl.move trivial _ (Or.inl rfl) (by kernel_rfl)
    · exact Obl.move ⟨by kernel_rfl, by kernel_rfl, by kernel_rfl⟩ _ (Or.inl rfl) (by kernel_rfl)
    · exact Obl.str (x := .tmp 78) ⟨by kernel_rfl, by kernel_rfl, by kernel_rfl⟩ 25 5 9 rfl Try.underlying25 Try.underlying5 Try.underlying9 (p.bytes) (.inr ⟨A4, L1, c4, by kernel_rfl, r4⟩) (by kernel_rfl)
    · exact Obl.move ⟨by kernel_rfl, by kernel_rfl, by kernel_rfl⟩ _ (Or.inl rfl) (by kernel_rfl)
    · exact Obl.str (x := .tmp 80) ⟨by kernel_rfl, by kernel_rfl, by kernel_rfl⟩ 25 5 9 rfl Try.underlying25 Try.underlying5 Try.underlying9 (q.bytes) (.inr ⟨A5, L2, c5, by kernel_rfl, r5⟩) (by kernel_rfl)
    · exact Obl.bin ⟨by kernel_rfl, by kernel_rfl, by kernel_rfl⟩ .eql _ (.tmp 79) (.tmp 81) _ rfl (.string ⟨(p.bytes).toArray⟩) (.string ⟨(q.bytes).toArray⟩) (.bool D) (by kernel_rfl) (by kernel_rfl) (eql_strs _ _ _ hDb _ _) (by kernel_rfl)
    · exact Obl.pure ⟨by kernel_rfl, by kernel_rfl, by kernel_rfl⟩ (.agg #[.bool p.m, .int .i64 p.ty, .int .u16 (p.seq : Int), .int .u32 (p.time : Int), .int .u32 (p.ssrc : Int), .slice A1 p.csrc.length c1, .int .u16 (p.prof : Int), .slice A2 p.ext.length c2, .slice A3 p.pay.length c3]) (by kernel_rfl) (fun ev w hb hx => by
        have e7 : ev (.tmp 7) = .pointer (some ⟨P, 0, none⟩) := holds_val (hx (.tmp 7)) (by kernel_rfl)
        obtain ⟨m0, m1, m2, m3, m4, m5, m6, m7, m8⟩ := blk9 (hP.below ((drew_below _).trans hb) hPl); simp [execOp, e7, go_sem, m0, m1, m2, m3, m4, m5, m6, m7, m8])
    · exact Obl.pure ⟨by kernel_rfl, by kernel_rfl, by kernel_rfl⟩ (.agg #[.bool q.m, .int .i64 q.ty, .int .u16 (q.seq : Int), .int .u32 (q.time : Int), .int .u32 (q.ssrc : Int), .slice B1 q.csrc.length d1, .int .u16 (q.prof : Int), .slice B2 q.ext.length d2, .slice B3 q.pay.length d3]) (by kernel_rfl) (fun ev w hb hx => by
        have e8 : ev (.tmp 8) = .pointer (some ⟨P + 1, 0, none⟩) := holds_val (hx (.tmp 8)) (by kernel_rfl)
        obtain ⟨m0, m1, m2, m3, m4, m5, m6, m7, m8⟩ := blk9 (hQ.below ((drew_below _).trans hb) hQl); simp [execOp, e8, go_sem, m0, m1, m2, m3, m4, m5, m6, m7, m8])
    · exact Obl.call ⟨by kernel_rfl, by kernel_rfl, by kernel_rfl⟩ 17 #[.tmp 83, .tmp 84] _ rfl Try.f17 Try.func17 (by kernel_rfl) (by kernel_rfl) (fun ev w hb hx => by
        have e83 : ev (.tmp 83) = .agg #[.bool p.m, .int .i64 p.ty, .int .u16 (p.seq : Int), .int .u32 (p.time : Int), .int .u32 (p.ssrc : Int), .slice A1 p.csrc.length c1, .int .u16 (p.prof : Int), .slice A2 p.ext.length c2, .slice A3 p.pay.length c3] := holds_val (hx (.tmp 83)) (by kernel_rfl)
        have e84 : ev (.tmp 84) = .agg #[.bool q.m, .int .i64 q.ty, .int .u16 (q.seq : Int), .int .u32 (q.time : Int), .int .u32 (q.ssrc : Int), .slice B1 q.csrc.length d1, .int .u16 (q.prof : Int), .slice B2 q.ext.length d2, .slice B3 q.pay.length d3] := holds_val (hx (.tmp 84)) (by kernel_rfl)
        simp only [List.map_toArray, List.map_cons, List.map_nil, e83, e84]
        exact ((hD ▸ ref_same p q A1 c1 A2 c2 A3 c3 B1 d1 B2 d2 B3 d3 w (hI.on ((drew_below _).trans hb)) (hJ.on ((drew_below _).trans hb)))).mono fun _ _ hh => Val.holds (by kernel_rfl) hh)
    · exact Obl.bin ⟨by kernel_rfl, by kernel_rfl, by kernel_rfl⟩ .eql _ (.tmp 82) (.tmp 85) _ rfl (.bool D) (.bool D) (.bool true) (by kernel_rfl) (by kernel_rfl) (fun w => by simp [eqGuard, go_sem]) (by kernel_rfl)
    · exact Obl.pick trivial _ _ _ rfl true (by kernel_rfl) (by kernel_rfl)
    · exact Obl.move trivial _ (Or.inl rfl) (by kernel_rfl)
    · exact Obl.move ⟨by kernel_rfl, by kernel_rfl, by kernel_rfl⟩ _ (Or.inl rfl) (by kernel_rfl)
    · exact Obl.str (x := .tmp 89) ⟨by kernel_rfl, by kernel_rfl, by kernel_rfl⟩ 25 5 9 rfl Try.underlying25 Try.underlying5 Try.underlying9 (p.bytes) (.inr ⟨A4, L1, c4, by kernel_rfl, r4⟩) (by kernel_rfl)
    · exact Obl.move ⟨by kernel_rfl, by kernel_rfl, by kernel_rfl⟩ _ (Or.inl rfl) (by kernel_rfl)
    · exact Obl.str (x := .tmp 91) ⟨by kernel_rfl, by kernel_rfl, by kernel_rfl⟩ 25 5 9 rfl Try.underlying25 Try.underlying5 Try.underlying9 (r.bytes) (.inr ⟨A10, L3, c10, by kernel_rfl, r10⟩) (by kernel_rfl)
    · exact Obl.bin ⟨by kernel_rfl, by kernel_rfl, by kernel_rfl⟩ .neq _ (.tmp 90) (.tmp 92) _ rfl (.string ⟨(p.bytes).toArray⟩) (.string ⟨(r.bytes).toArray⟩) (.bool true) (by kernel_rfl) (by kernel_rfl) (neq_strs _ _ _ hNe _ _) (by kernel_rfl)
    · exact Obl.pick trivial _ _ _ rfl true (by kernel_rfl) (by kernel_rfl)
    · exact Obl.move trivial _ (Or.inl rfl) (by kernel_rfl)
    · exact Obl.pure ⟨by kernel_rfl, by kernel_rfl, by kernel_rfl⟩ (.agg #[.bool p.m, .int .i64 p.ty, .int .u16 (p.seq : Int), .int .u32 (p.time : Int), .int .u32 (p.ssrc : Int), .slice A1 p.csrc.length c1, .int .u16 (p.prof : Int), .slice A2 p.ext.length c2, .slice A3 p.pay.length c3]) (by kernel_rfl) (fun ev w hb hx => by
        have e7 : ev (.tmp 7) = .pointer (some ⟨P, 0, none⟩) := holds_val (hx (.tmp 7)) (by kernel_rfl)
        obtain ⟨m0, m1, m2, m3, m4, m5, m6, m7, m8⟩ := blk9 (hP.below ((drew_below _).trans hb) hPl); simp [execOp, e7, go_sem, m0, m1, m2, m3, m4, m5, m6, m7, m8])
    · exact Obl.pure ⟨by kernel_rfl, by kernel_rfl, by kernel_rfl⟩ (.agg #[.bool r.m, .int .i64 r.ty, .int .u16 (r.seq : Int), .int .u32 (r.time : Int), .int .u32 (r.ssrc : Int), .slice C1 r.csrc.length e1, .int .u16 (r.prof : Int), .slice C2 r.ext.length e2, .slice C3 r.pay.length e3]) (by kernel_rfl) (fun ev w hb hx => by
        have e13 : ev (.tmp 13) = .pointer (some ⟨w5.heap.size, 0, none⟩) := holds_val (hx (.tmp 13)) (by kernel_rfl)
        obtain ⟨m0, m1, m2, m3, m4, m5, m6, m7, m8⟩ := blk9 (hR10.below ((drew_below _).trans hb) hRl); simp [execOp, e13, go_sem, m0, m1, m2, m3, m4, m5, m6, m7, m8])
    · exact Obl.call ⟨by kernel_rfl, by kernel_rfl, by kernel_rfl⟩ 16 #[.tmp 96, .tmp 97] _ rfl Try.f16 Try.func16 (by kernel_rfl) (by kernel_rfl) (fun ev w hb hx => by
        have e96 : ev (.tmp 96) = .agg #[.bool p.m, .int .i64 p.ty, .int .u16 (p.seq : Int), .int .u32 (p.time : Int), .int .u32 (p.ssrc : Int), .slice A1 p.csrc.length c1, .int .u16 (p.prof : Int), .slice A2 p.ext.length c2, .slice A3 p.pay.length c3] := holds_val (hx (.tmp 96)) (by kernel_rfl)
        have e97 : ev (.tmp 97) = .agg #[.bool r.m, .int .i64 r.ty, .int .u16 (r.seq : Int), .int .u32 (r.time : Int), .int .u32 (r.ssrc : Int), .slice C1 r.csrc.length e1, .int .u16 (r.prof : Int), .slice C2 r.ext.length e2, .slice C3 r.pay.length e3] := holds_val (hx (.tmp 97)) (by kernel_rfl)
        simp only [List.map_toArray, List.map_cons, List.map_nil, e96, e97]
        exact ((hPR ▸ rtp_same p r A1 c1 A2 c2 A3 c3 C1 e1 C2 e2 C3 e3 w (hI.on ((drew_below _).trans hb)) (hK.on ((drew_below _).trans hb)))).mono fun _ _ hh => Val.holds (by kernel_rfl) hh)
    · exact Obl.un ⟨by kernel_rfl, by kernel_rfl, by kernel_rfl⟩ .not _ (.tmp 98) rfl (.bool false) (.bool true) (by kernel_rfl) (fun w => by simp [go_sem]) (by kernel_rfl)
    · exact Obl.pick trivial _ _ _ rfl true (by kernel_rfl) (by kernel_rfl)
    · exact Obl.move trivial _ (Or.inl rfl) (by kernel_rfl)
    · exact Obl.call ⟨by kernel_rfl, by kernel_rfl, by kernel_rfl⟩ 14 #[] _ rfl Try.f14 Try.func14 (by kernel_rfl) (by kernel_rfl) (fun ev w hb hx => by
        simp only [List.map_toArray, List.map_nil]
        exact (known_yes w).mono fun _ _ hh => hh.holds (by kernel_rfl))
    · exact Obl.pick trivial _ _ _ rfl true (by kernel_rfl) (by kernel_rfl)
    · exact Obl.move trivial _ (Or.inr rfl) (by kernel_rfl)
    intro a w4 hb hsz hdf hold hv
    have h8 : a.tmps.getD 6 undef = .bool true := holds_val (hv 37 6 (by kernel_rfl)) (by kernel_rfl)
    obtain ⟨tm, df⟩ := a
    have hdf' : df = [] := hdf
    subst hdf'
    go_wp2
    go_ret
    exact ⟨congrArg _ h8, b10.drew.trans (hb.mono b10.size)⟩
end Go.Proofs.Ytgdhkblpkllaaaa
