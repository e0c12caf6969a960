/- Contract: limelightlaw3.same. -/
import Derived.Test.YtpcdmcaojgpfoaaLwReads
import Derived.Test.YtpcdmcaojgpfoaaCRBytes
import Derived.Test.YtpcdmcaojgpfoaaCRSame
namespace Go.Proofs.Ytpcdmcaojgpfoaa
open Go.RowKit
set_option linter.unusedVariables false
set_option linter.unusedSimpArgs false
set_option maxRecDepth 20000

set_option maxHeartbeats 2000000 in
theorem law_same (p : Pkt) (A1 : Option Addr) (c1 : Nat) (A2 : Option Addr) (c2 : Nat) (A3 : Option Addr) (c3 : Nat) (w : World) (hp : IsP w w.heap.size A1 c1 A2 c2 A3 c3 p) :
    Calls Try.prog 12 #[p.val A1 c1 A2 c2 A3 c3] w (Yes w) := by
  have hZ := Blk.new w 28 #[.bool p.m, .int .i64 p.ty, .int .u16 (p.seq : Int), .int .u32 (p.time : Int), .int .u32 (p.ssrc : Int), .slice A1 p.csrc.length c1, .int .u16 (p.prof : Int), .slice A2 p.ext.length c2, .slice A3 p.pay.length c3]
  have b1 := (Below.refl _ w).alloc (Nat.le_refl _) (.cells #[.bool p.m, .int .i64 p.ty, .int .u16 (p.seq : Int), .int .u32 (p.time : Int), .int .u32 (p.ssrc : Int), .slice A1 p.csrc.length c1, .int .u16 (p.prof : Int), .slice A2 p.ext.length c2, .slice A3 p.pay.length c3] 28)
  simp only [Pkt.val]
  go_enter Try.func12, Try.ntmps12
  go_upto_region 1 with (fail)
  have hI := hp.on b1
  generalize w.alloc (.cells #[.bool p.m, .int .i64 p.ty, .int .u16 (p.seq : Int), .int .u32 (p.time : Int), .int .u32 (p.ssrc : Int), .slice A1 p.csrc.length c1, .int .u16 (p.prof : Int), .slice A2 p.ext.length c2, .slice A3 p.pay.length c3] 28) = W1 at hZ b1 hI ⊢
  have hP := hZ
  clear hZ
  generalize w.heap.size = P at hP ⊢
  obtain ⟨k0, k1, k2, k3, k4, k5, k6, k7, k8⟩ := blk9 hP
  go_wp2_with fail
  clear k0 k1 k2 k3 k4 k5 k6 k7 k8
  refine (show Calls _ _ #[.agg #[.bool p.m, .int .i64 p.ty, .int .u16 (p.seq : Int), .int .u32 (p.time : Int), .int .u32 (p.ssrc : Int), .slice A1 p.csrc.length c1, .int .u16 (p.prof : Int), .slice A2 p.ext.length c2, .slice A3 p.pay.length c3]] _ _ from rtp_bytes p A1 c1 A2 c2 A3 c3 W1 hI).mono ?_
  rintro e w2 ⟨hy, hn⟩
  by_cases h0 : p.right = 0
  · obtain ⟨v2, rfl, ho2, bz⟩ := hy h0
    obtain ⟨A4, c4, rfl, r4⟩ := ho2.r8
    have b2 := b1.trans (bz.mono b1.size)
    have hI := hI.on bz
    have hP := hP.below bz hP.lt
    have hsz : (if p.right = 0 then p.size else 0) = p.bytes.length := by rw [if_pos h0, p.bytes_len (p.ok_of h0).pe]
    obtain ⟨L, hL⟩ : ∃ L, p.bytes.length = L := ⟨_, rfl⟩
    rw [hL] at r4 hsz ⊢
    have hL9 : L ≤ 1500 := by have := (p.ok_of h0).sz; rw [← hL, p.bytes_len (p.ok_of h0).pe]; exact this
    have h0h := Lib.hid h0
    have hLh := Lib.hid hL
    clear hy hn bz ho2 b1 h0 hL
    obtain ⟨k0, k1, k2, k3, k4, k5, k6, k7, k8⟩ := blk9 hP
    go_wp2_with fail
    clear k0 k1 k2 k3 k4 k5 k6 k7 k8
    refine (show Calls _ _ #[.agg #[.bool p.m, .int .i64 p.ty, .int .u16 (p.seq : Int), .int .u32 (p.time : Int), .int .u32 (p.ssrc : Int), .slice A1 p.csrc.length c1, .int .u16 (p.prof : Int), .slice A2 p.ext.length c2, .slice A3 p.pay.length c3]] _ _ from ref_bytes p A1 c1 A2 c2 A3 c3 w2 hI).mono ?_
    rintro e w3 ⟨hy, _⟩
    obtain ⟨v3, rfl, ho3, bz⟩ := hy h0h.out
    obtain ⟨A5, c5, rfl, r5⟩ := ho3.r8
    have b3 := b2.trans (bz.mono b2.size)
    have hI := hI.on bz
    have hP := hP.below bz hP.lt
    have r4 := r4.on bz
    rw [hLh.out] at r5 ⊢
    clear hy bz ho3 b2
    have hPl := hP.lt
    go_upto_region 3 with (fail)
    refine wp_region_tbl [.val (.agg #[.bool p.m, .int .i64 p.ty, .int .u16 (p.seq : Int), .int .u32 (p.time : Int), .int .u32 (p.ssrc : Int), .slice A1 p.csrc.length c1, .int .u16 (p.prof : Int), .slice A2 p.ext.length c2, .slice A3 p.pay.length c3]), .val (.int .i64 0), .val (.agg #[.bool p.m, .int .i64 p.ty, .int .u16 (p.seq : Int), .int .u32 (p.time : Int), .int .u32 (p.ssrc : Int), .slice A1 p.csrc.length c1, .int .u16 (p.prof : Int), .slice A2 p.ext.length c2, .slice A3 p.pay.length c3]), .val (.int .i64 0), .val (.bool true), .val (.bool true), .val (.int .i64 0), .val (.int .i64 0), .val (.bool true), .val (.bool true), .val (.bool true), .val (.slice A4 L c4), .val (.string ⟨(p.bytes).toArray⟩), .val (.slice A5 L c5), .val (.string ⟨(p.bytes).toArray⟩), .val (.bool true), .val (.bool true), .val (.bool true), .val (.agg #[.bool p.m, .int .i64 p.ty, .int .u16 (p.seq : Int), .int .u32 (p.time : Int), .int .u32 (p.ssrc : Int), .slice A1 p.csrc.length c1, .int .u16 (p.prof : Int), .slice A2 p.ext.length c2, .slice A3 p.pay.length c3]), .val (.int .i64 (L : Nat)), .val (.slice A5 L c5), .val (.int .i64 (L : Nat)), .val (.bool true), .val (.bool true), .val (.bool true), .val (.agg #[.bool p.m, .int .i64 p.ty, .int .u16 (p.seq : Int), .int .u32 (p.time : Int), .int .u32 (p.ssrc : Int), .slice A1 p.csrc.length c1, .int .u16 (p.prof : Int), .slice A2 p.ext.length c2, .slice A3 p.pay.length c3]), .val (.agg #[.bool p.m, .int .i64 p.ty, .int .u16 (p.seq : Int), .int .u32 (p.time : Int), .int .u32 (p.ssrc : Int), .slice A1 p.csrc.length c1, .int .u16 (p.prof : Int), .slice A2 p.ext.length c2, .slice A3 p.pay.length c3]), .val (.bool true), .val (.bool true), .val (.bool true), .val (.int .i64 0), .val (.bool false), .val (.bool false), .val (.slice A5 L c5), .val (.bool true), .val (.bool true), .val (.bool true), .val (.bool true)] (by kernel_rfl) (by kernel_rfl) (by kernel_rfl) (AllObl.all ⟨?_, ?_, ?_, ?_, ?_, ?_, ?_, ?_, ?_, ?_, ?_, ?_, ?_, ?_, ?_, ?_, ?_, ?_, ?_, ?_, ?_, ?_, ?_, ?_, ?_, ?_, ?_, ?_, ?_, ?_, ?_, ?_, ?_, ?_, ?_, ?_, ?_, ?_, trivial⟩) ?_
    · exact Obl.pure trivial (.agg #[.bool p.m, .int .i64 p.ty, .int .u16 (p.seq : Int), .int .u32 (p.time : Int), .int .u32 (p.ssrc : Int), .slice A1 p.csrc.length c1, .int .u16 (p.prof : Int), .slice A2 p.ext.length c2, .slice A3 p.pay.length c3]) (by kernel_rfl) (fun ev w hb hx => by
        have e1 : ev (.tmp 1) = .pointer (some ⟨P, 0, none⟩) := holds_val (hx (.tmp 1)) (by kernel_rfl)
        obtain ⟨m0, m1, m2, m3, m4, m5, m6, m7, m8⟩ := blk9 (hP.below ((drew_below _).trans hb) hPl); simp [execOp, e1, go_sem, m0, m1, m2, m3, m4, m5, m6, m7, m8])
    · exact Obl.call trivial 37 #[.tmp 17] _ rfl Try.f37 Try.func37 (by kernel_rfl) (by kernel_rfl) (fun ev w hb hx => by
        have e17 : ev (.tmp 17) = .agg #[.bool p.m, .int .i64 p.ty, .int .u16 (p.seq : Int), .int .u32 (p.time : Int), .int .u32 (p.ssrc : Int), .slice A1 p.csrc.length c1, .int .u16 (p.prof : Int), .slice A2 p.ext.length c2, .slice A3 p.pay.length c3] := holds_val (hx (.tmp 17)) (by kernel_rfl)
        simp only [List.map_toArray, List.map_cons, List.map_nil, e17]
        exact ((h0h.out ▸ rtp_right p A1 c1 A2 c2 A3 c3 w hI.kinds)).mono fun _ _ hh => Val.holds (by kernel_rfl) hh)
    · exact Obl.pure trivial (.agg #[.bool p.m, .int .i64 p.ty, .int .u16 (p.seq : Int), .int .u32 (p.time : Int), .int .u32 (p.ssrc : Int), .slice A1 p.csrc.length c1, .int .u16 (p.prof : Int), .slice A2 p.ext.length c2, .slice A3 p.pay.length c3]) (by kernel_rfl) (fun ev w hb hx => by
        have e1 : ev (.tmp 1) = .pointer (some ⟨P, 0, none⟩) := holds_val (hx (.tmp 1)) (by kernel_rfl)
        obtain ⟨m0, m1, m2, m3, m4, m5, m6, m7, m8⟩ := blk9 (hP.below ((drew_below _).trans hb) hPl); simp [execOp, e1, go_sem, m0, m1, m2, m3, m4, m5, m6, m7, m8])
    · exact Obl.call trivial 34 #[.tmp 19] _ rfl Try.f34 Try.func34 (by kernel_rfl) (by kernel_rfl) (fun ev w hb hx => by
        have e19 : ev (.tmp 19) = .agg #[.bool p.m, .int .i64 p.ty, .int .u16 (p.seq : Int), .int .u32 (p.time : Int), .int .u32 (p.ssrc : Int), .slice A1 p.csrc.length c1, .int .u16 (p.prof : Int), .slice A2 p.ext.length c2, .slice A3 p.pay.length c3] := holds_val (hx (.tmp 19)) (by kernel_rfl)
        simp only [List.map_toArray, List.map_cons, List.map_nil, e19]
        exact ((h0h.out ▸ ref_right p A1 c1 A2 c2 A3 c3 w hI.kinds)).mono fun _ _ hh => Val.holds (by kernel_rfl) hh)
    · exact Obl.bin trivial .eql _ (.tmp 18) (.tmp 20) _ rfl (.int .i64 0) (.int .i64 0) (.bool true) (by kernel_rfl) (by kernel_rfl) (fun w => by simp [eqGuard, go_sem]) (by kernel_rfl)
    · exact Obl.move trivial _ (Or.inl rfl) (by kernel_rfl)
    · exact Obl.move ⟨by kernel_rfl, by kernel_rfl, by kernel_rfl⟩ _ (Or.inl rfl) (by kernel_rfl)
    · exact Obl.move ⟨by kernel_rfl, by kernel_rfl, by kernel_rfl⟩ _ (Or.inl rfl) (by kernel_rfl)
    · exact Obl.bin ⟨by kernel_rfl, by kernel_rfl, by kernel_rfl⟩ .eql _ (.tmp 23) (.tmp 24) _ rfl (.int .i64 0) (.int .i64 0) (.bool true) (by kernel_rfl) (by kernel_rfl) (fun w => by simp [eqGuard, go_sem]) (by kernel_rfl)
    · exact Obl.pick trivial _ _ _ rfl true (by kernel_rfl) (by kernel_rfl)
    · exact Obl.move trivial _ (Or.inl rfl) (by kernel_rfl)
    · exact Obl.move ⟨by kernel_rfl, by kernel_rfl, by kernel_rfl⟩ _ (Or.inl rfl) (by kernel_rfl)
    · exact Obl.str (x := .tmp 28) ⟨by kernel_rfl, by kernel_rfl, by kernel_rfl⟩ 26 5 9 rfl Try.underlying26 Try.underlying5 Try.underlying9 (p.bytes) (.inr ⟨A4, L, c4, by kernel_rfl, r4⟩) (by kernel_rfl)
    · exact Obl.move ⟨by kernel_rfl, by kernel_rfl, by kernel_rfl⟩ _ (Or.inl rfl) (by kernel_rfl)
    · exact Obl.str (x := .tmp 30) ⟨by kernel_rfl, by kernel_rfl, by kernel_rfl⟩ 26 5 9 rfl Try.underlying26 Try.underlying5 Try.underlying9 (p.bytes) (.inr ⟨A5, L, c5, by kernel_rfl, r5⟩) (by kernel_rfl)
    · exact Obl.bin ⟨by kernel_rfl, by kernel_rfl, by kernel_rfl⟩ .eql _ (.tmp 29) (.tmp 31) _ rfl (.string ⟨(p.bytes).toArray⟩) (.string ⟨(p.bytes).toArray⟩) (.bool true) (by kernel_rfl) (by kernel_rfl) (eql_str _ _ _) (by kernel_rfl)
    · exact Obl.pick trivial _ _ _ rfl true (by kernel_rfl) (by kernel_rfl)
    · exact Obl.move trivial _ (Or.inl rfl) (by kernel_rfl)
    · exact Obl.pure ⟨by kernel_rfl, by kernel_rfl, by kernel_rfl⟩ (.agg #[.bool p.m, .int .i64 p.ty, .int .u16 (p.seq : Int), .int .u32 (p.time : Int), .int .u32 (p.ssrc : Int), .slice A1 p.csrc.length c1, .int .u16 (p.prof : Int), .slice A2 p.ext.length c2, .slice A3 p.pay.length c3]) (by kernel_rfl) (fun ev w hb hx => by
        have e1 : ev (.tmp 1) = .pointer (some ⟨P, 0, none⟩) := holds_val (hx (.tmp 1)) (by kernel_rfl)
        obtain ⟨m0, m1, m2, m3, m4, m5, m6, m7, m8⟩ := blk9 (hP.below ((drew_below _).trans hb) hPl); simp [execOp, e1, go_sem, m0, m1, m2, m3, m4, m5, m6, m7, m8])
    · exact Obl.call ⟨by kernel_rfl, by kernel_rfl, by kernel_rfl⟩ 38 #[.tmp 35] _ rfl Try.f38 Try.func38 (by kernel_rfl) (by kernel_rfl) (fun ev w hb hx => by
        have e35 : ev (.tmp 35) = .agg #[.bool p.m, .int .i64 p.ty, .int .u16 (p.seq : Int), .int .u32 (p.time : Int), .int .u32 (p.ssrc : Int), .slice A1 p.csrc.length c1, .int .u16 (p.prof : Int), .slice A2 p.ext.length c2, .slice A3 p.pay.length c3] := holds_val (hx (.tmp 35)) (by kernel_rfl)
        simp only [List.map_toArray, List.map_cons, List.map_nil, e35]
        exact ((hsz ▸ rtp_size p A1 c1 A2 c2 A3 c3 w hI.kinds)).mono fun _ _ hh => Val.holds (by kernel_rfl) hh)
    · exact Obl.move ⟨by kernel_rfl, by kernel_rfl, by kernel_rfl⟩ _ (Or.inl rfl) (by kernel_rfl)
    · exact Obl.lenV (x := (.tmp 37)) ⟨by kernel_rfl, by kernel_rfl, by kernel_rfl⟩ _ _ Try.underlying26 rfl (A5) (L) (c5) (by kernel_rfl) (by kernel_rfl)
    · exact Obl.bin ⟨by kernel_rfl, by kernel_rfl, by kernel_rfl⟩ .eql _ (.tmp 36) (.tmp 38) _ rfl (.int .i64 (L : Nat)) (.int .i64 (L : Nat)) (.bool true) (by kernel_rfl) (by kernel_rfl) (fun w => by simp [eqGuard, go_sem]) (by kernel_rfl)
    · exact Obl.pick trivial _ _ _ rfl true (by kernel_rfl) (by kernel_rfl)
    · exact Obl.move trivial _ (Or.inl rfl) (by kernel_rfl)
    · exact Obl.pure ⟨by kernel_rfl, by kernel_rfl, by kernel_rfl⟩ (.agg #[.bool p.m, .int .i64 p.ty, .int .u16 (p.seq : Int), .int .u32 (p.time : Int), .int .u32 (p.ssrc : Int), .slice A1 p.csrc.length c1, .int .u16 (p.prof : Int), .slice A2 p.ext.length c2, .slice A3 p.pay.length c3]) (by kernel_rfl) (fun ev w hb hx => by
        have e1 : ev (.tmp 1) = .pointer (some ⟨P, 0, none⟩) := holds_val (hx (.tmp 1)) (by kernel_rfl)
        obtain ⟨m0, m1, m2, m3, m4, m5, m6, m7, m8⟩ := blk9 (hP.below ((drew_below _).trans hb) hPl); simp [execOp, e1, go_sem, m0, m1, m2, m3, m4, m5, m6, m7, m8])
    · exact Obl.pure ⟨by kernel_rfl, by kernel_rfl, by kernel_rfl⟩ (.agg #[.bool p.m, .int .i64 p.ty, .int .u16 (p.seq : Int), .int .u32 (p.time : Int), .int .u32 (p.ssrc : Int), .slice A1 p.csrc.length c1, .int .u16 (p.prof : Int), .slice A2 p.ext.length c2, .slice A3 p.pay.length c3]) (by kernel_rfl) (fun ev w hb hx => by
        have e1 : ev (.tmp 1) = .pointer (some ⟨P, 0, none⟩) := holds_val (hx (.tmp 1)) (by kernel_rfl)
        obtain ⟨m0, m1, m2, m3, m4, m5, m6, m7, m8⟩ := blk9 (hP.below ((drew_below _).trans hb) hPl); simp [execOp, e1, go_sem, m0, m1, m2, m3, m4, m5, m6, m7, m8])
    · exact Obl.call ⟨by kernel_rfl, by kernel_rfl, by kernel_rfl⟩ 15 #[.tmp 42, .tmp 43] _ rfl Try.f15 Try.func15 (by kernel_rfl) (by kernel_rfl) (fun ev w hb hx => by
        have e42 : ev (.tmp 42) = .agg #[.bool p.m, .int .i64 p.ty, .int .u16 (p.seq : Int), .int .u32 (p.time : Int), .int .u32 (p.ssrc : Int), .slice A1 p.csrc.length c1, .int .u16 (p.prof : Int), .slice A2 p.ext.length c2, .slice A3 p.pay.length c3] := holds_val (hx (.tmp 42)) (by kernel_rfl)
        have e43 : ev (.tmp 43) = .agg #[.bool p.m, .int .i64 p.ty, .int .u16 (p.seq : Int), .int .u32 (p.time : Int), .int .u32 (p.ssrc : Int), .slice A1 p.csrc.length c1, .int .u16 (p.prof : Int), .slice A2 p.ext.length c2, .slice A3 p.pay.length c3] := holds_val (hx (.tmp 43)) (by kernel_rfl)
        simp only [List.map_toArray, List.map_cons, List.map_nil, e42, e43]
        exact ((samePk_refl p ▸ rtp_same p p A1 c1 A2 c2 A3 c3 A1 c1 A2 c2 A3 c3 w (hI.on ((drew_below _).trans hb)) (hI.on ((drew_below _).trans hb)))).mono fun _ _ hh => Val.holds (by kernel_rfl) hh)
    · exact Obl.pick trivial _ _ _ rfl true (by kernel_rfl) (by kernel_rfl)
    · exact Obl.move trivial _ (Or.inl rfl) (by kernel_rfl)
    · exact Obl.move ⟨by kernel_rfl, by kernel_rfl, by kernel_rfl⟩ _ (Or.inl rfl) (by kernel_rfl)
    · exact Obl.bin ⟨by kernel_rfl, by kernel_rfl, by kernel_rfl⟩ .neq _ (.tmp 47) (.const (.int .i64 0)) _ rfl (.int .i64 0) (.int .i64 0) (.bool false) (by kernel_rfl) (by kernel_rfl) (fun w => by simp [eqGuard, go_sem]) (by kernel_rfl)
    · exact Obl.move ⟨by kernel_rfl, by kernel_rfl, by kernel_rfl⟩ _ (Or.inl rfl) (by kernel_rfl)
    · exact Obl.move ⟨by kernel_rfl, by kernel_rfl, by kernel_rfl⟩ _ (Or.inl rfl) (by kernel_rfl)
    · exact Obl.call ⟨by kernel_rfl, by kernel_rfl, by kernel_rfl⟩ 14 #[.tmp 50] _ rfl Try.f14 Try.func14 (by kernel_rfl) (by kernel_rfl) (fun ev w hb hx => by
        have e50 : ev (.tmp 50) = .slice A5 L c5 := holds_val (hx (.tmp 50)) (by kernel_rfl)
        simp only [List.map_toArray, List.map_cons, List.map_nil, e50]
        exact (law_reads A5 L c5 p.bytes w (r5.on ((drew_below _).trans hb)) (by omega)).mono fun _ _ hh => hh.holds (by kernel_rfl))
    · exact Obl.pick ⟨by kernel_rfl, by kernel_rfl, by kernel_rfl⟩ _ _ _ rfl false (by kernel_rfl) (by kernel_rfl)
    · exact Obl.pick trivial _ _ _ rfl true (by kernel_rfl) (by kernel_rfl)
    · exact Obl.move trivial _ (Or.inr rfl) (by kernel_rfl)
    intro a w4 hb hsz9 hdf hold hv
    have h8 : a.tmps.getD 2 undef = .bool true := holds_val (hv 37 2 (by kernel_rfl)) (by kernel_rfl)
    obtain ⟨tm, df⟩ := a
    have hdf' : df = [] := hdf
    subst hdf'
    go_wp2
    go_ret
    exact ⟨congrArg _ h8, b3.drew.trans (hb.mono b3.size)⟩
  · obtain ⟨rfl, bz⟩ := hn h0
    have b2 := b1.trans (bz.mono b1.size)
    have hI := hI.on bz
    have hP := hP.below bz hP.lt
    have hE : ∃ E, p.right = E := ⟨_, rfl⟩
    obtain ⟨E, hE⟩ := hE
    have hsz : (if p.right = 0 then p.size else 0) = 0 := if_neg h0
    have hEne : ¬ E = 0 := by rw [← hE]; exact h0
    rw [hE]
    have hEh := Lib.hid hE
    have h0h := Lib.hid h0
    clear hy hn bz b1 h0 hE
    obtain ⟨k0, k1, k2, k3, k4, k5, k6, k7, k8⟩ := blk9 hP
    go_wp2_with fail
    clear k0 k1 k2 k3 k4 k5 k6 k7 k8
    refine (show Calls _ _ #[.agg #[.bool p.m, .int .i64 p.ty, .int .u16 (p.seq : Int), .int .u32 (p.time : Int), .int .u32 (p.ssrc : Int), .slice A1 p.csrc.length c1, .int .u16 (p.prof : Int), .slice A2 p.ext.length c2, .slice A3 p.pay.length c3]] _ _ from ref_bytes p A1 c1 A2 c2 A3 c3 w2 hI).mono ?_
    rintro e w3 ⟨_, hn⟩
    obtain ⟨rfl, bz⟩ := hn h0h.out
    have b3 := b2.trans (bz.mono b2.size)
    have hI := hI.on bz
    have hP := hP.below bz hP.lt
    rw [hEh.out]
    clear hn bz b2
    have hPl := hP.lt
    go_upto_region 3 with (fail)
    refine wp_region_tbl [.val (.agg #[.bool p.m, .int .i64 p.ty, .int .u16 (p.seq : Int), .int .u32 (p.time : Int), .int .u32 (p.ssrc : Int), .slice A1 p.csrc.length c1, .int .u16 (p.prof : Int), .slice A2 p.ext.length c2, .slice A3 p.pay.length c3]), .val (.int .i64 E), .val (.agg #[.bool p.m, .int .i64 p.ty, .int .u16 (p.seq : Int), .int .u32 (p.time : Int), .int .u32 (p.ssrc : Int), .slice A1 p.csrc.length c1, .int .u16 (p.prof : Int), .slice A2 p.ext.length c2, .slice A3 p.pay.length c3]), .val (.int .i64 E), .val (.bool true), .val (.bool true), .val (.int .i64 E), .val (.int .i64 E), .val (.bool true), .val (.bool true), .val (.bool true), .val (.slice none 0 0), .val (.string ⟨([]).toArray⟩), .val (.slice none 0 0), .val (.string ⟨([]).toArray⟩), .val (.bool true), .val (.bool true), .val (.bool true), .val (.agg #[.bool p.m, .int .i64 p.ty, .int .u16 (p.seq : Int), .int .u32 (p.time : Int), .int .u32 (p.ssrc : Int), .slice A1 p.csrc.length c1, .int .u16 (p.prof : Int), .slice A2 p.ext.length c2, .slice A3 p.pay.length c3]), .val (.int .i64 (0 : Nat)), .val (.slice none 0 0), .val (.int .i64 (0 : Nat)), .val (.bool true), .val (.bool true), .val (.bool true), .val (.agg #[.bool p.m, .int .i64 p.ty, .int .u16 (p.seq : Int), .int .u32 (p.time : Int), .int .u32 (p.ssrc : Int), .slice A1 p.csrc.length c1, .int .u16 (p.prof : Int), .slice A2 p.ext.length c2, .slice A3 p.pay.length c3]), .val (.agg #[.bool p.m, .int .i64 p.ty, .int .u16 (p.seq : Int), .int .u32 (p.time : Int), .int .u32 (p.ssrc : Int), .slice A1 p.csrc.length c1, .int .u16 (p.prof : Int), .slice A2 p.ext.length c2, .slice A3 p.pay.length c3]), .val (.bool true), .val (.bool true), .val (.bool true), .val (.int .i64 E), .val (.bool true), .val (.bool true), .val (undef), .val (undef), .val (.bool true), .val (.bool true), .val (.bool true)] (by kernel_rfl) (by kernel_rfl) (by kernel_rfl) (AllObl.all ⟨?_, ?_, ?_, ?_, ?_, ?_, ?_, ?_, ?_, ?_, ?_, ?_, ?_, ?_, ?_, ?_, ?_, ?_, ?_, ?_, ?_, ?_, ?_, ?_, ?_, ?_, ?_, ?_, ?_, ?_, ?_, ?_, ?_, ?_, ?_, ?_, ?_, ?_, trivial⟩) ?_
    · exact Obl.pure trivial (.agg #[.bool p.m, .int .i64 p.ty, .int .u16 (p.seq : Int), .int .u32 (p.time : Int), .int .u32 (p.ssrc : Int), .slice A1 p.csrc.length c1, .int .u16 (p.prof : Int), .slice A2 p.ext.length c2, .slice A3 p.pay.length c3]) (by kernel_rfl) (fun ev w hb hx => by
        have e1 : ev (.tmp 1) = .pointer (some ⟨P, 0, none⟩) := holds_val (hx (.tmp 1)) (by kernel_rfl)
        obtain ⟨m0, m1, m2, m3, m4, m5, m6, m7, m8⟩ := blk9 (hP.below ((drew_below _).trans hb) hPl); simp [execOp, e1, go_sem, m0, m1, m2, m3, m4, m5, m6, m7, m8])
    · exact Obl.call trivial 37 #[.tmp 17] _ rfl Try.f37 Try.func37 (by kernel_rfl) (by kernel_rfl) (fun ev w hb hx => by
        have e17 : ev (.tmp 17) = .agg #[.bool p.m, .int .i64 p.ty, .int .u16 (p.seq : Int), .int .u32 (p.time : Int), .int .u32 (p.ssrc : Int), .slice A1 p.csrc.length c1, .int .u16 (p.prof : Int), .slice A2 p.ext.length c2, .slice A3 p.pay.length c3] := holds_val (hx (.tmp 17)) (by kernel_rfl)
        simp only [List.map_toArray, List.map_cons, List.map_nil, e17]
        exact ((hEh.out ▸ rtp_right p A1 c1 A2 c2 A3 c3 w hI.kinds)).mono fun _ _ hh => Val.holds (by kernel_rfl) hh)
    · exact Obl.pure trivial (.agg #[.bool p.m, .int .i64 p.ty, .int .u16 (p.seq : Int), .int .u32 (p.time : Int), .int .u32 (p.ssrc : Int), .slice A1 p.csrc.length c1, .int .u16 (p.prof : Int), .slice A2 p.ext.length c2, .slice A3 p.pay.length c3]) (by kernel_rfl) (fun ev w hb hx => by
        have e1 : ev (.tmp 1) = .pointer (some ⟨P, 0, none⟩) := holds_val (hx (.tmp 1)) (by kernel_rfl)
        obtain ⟨m0, m1, m2, m3, m4, m5, m6, m7, m8⟩ := blk9 (hP.below ((drew_below _).trans hb) hPl); simp [execOp, e1, go_sem, m0, m1, m2, m3, m4, m5, m6, m7, m8])
    · exact Obl.call trivial 34 #[.tmp 19] _ rfl Try.f34 Try.func34 (by kernel_rfl) (by kernel_rfl) (fun ev w hb hx => by
        have e19 : ev (.tmp 19) = .agg #[.bool p.m, .int .i64 p.ty, .int .u16 (p.seq : Int), .int .u32 (p.time : Int), .int .u32 (p.ssrc : Int), .slice A1 p.csrc.length c1, .int .u16 (p.prof : Int), .slice A2 p.ext.length c2, .slice A3 p.pay.length c3] := holds_val (hx (.tmp 19)) (by kernel_rfl)
        simp only [List.map_toArray, List.map_cons, List.map_nil, e19]
        exact ((hEh.out ▸ ref_right p A1 c1 A2 c2 A3 c3 w hI.kinds)).mono fun _ _ hh => Val.holds (by kernel_rfl) hh)
    · exact Obl.bin trivial .eql _ (.tmp 18) (.tmp 20) _ rfl (.int .i64 E) (.int .i64 E) (.bool true) (by kernel_rfl) (by kernel_rfl) (fun w => by simp [eqGuard, go_sem]) (by kernel_rfl)
    · exact Obl.move trivial _ (Or.inl rfl) (by kernel_rfl)
    · exact Obl.move ⟨by kernel_rfl, by kernel_rfl, by kernel_rfl⟩ _ (Or.inl rfl) (by kernel_rfl)
    · exact Obl.move ⟨by kernel_rfl, by kernel_rfl, by kernel_rfl⟩ _ (Or.inl rfl) (by kernel_rfl)
    · exact Obl.bin ⟨by kernel_rfl, by kernel_rfl, by kernel_rfl⟩ .eql _ (.tmp 23) (.tmp 24) _ rfl (.int .i64 E) (.int .i64 E) (.bool true) (by kernel_rfl) (by kernel_rfl) (fun w => by simp [eqGuard, go_sem]) (by kernel_rfl)
    · exact Obl.pick trivial _ _ _ rfl true (by kernel_rfl) (by kernel_rfl)
    · exact Obl.move trivial _ (Or.inl rfl) (by kernel_rfl)
    · exact Obl.move ⟨by kernel_rfl, by kernel_rfl, by kernel_rfl⟩ _ (Or.inl rfl) (by kernel_rfl)
    · exact Obl.str (x := .tmp 28) ⟨by kernel_rfl, by kernel_rfl, by kernel_rfl⟩ 26 5 9 rfl Try.underlying26 Try.underlying5 Try.underlying9 ([]) (.inr ⟨none, 0, 0, by kernel_rfl, (R8.nil _ _ _ _)⟩) (by kernel_rfl)
    · exact Obl.move ⟨by kernel_rfl, by kernel_rfl, by kernel_rfl⟩ _ (Or.inl rfl) (by kernel_rfl)
    · exact Obl.str (x := .tmp 30) ⟨by kernel_rfl, by kernel_rfl, by kernel_rfl⟩ 26 5 9 rfl Try.underlying26 Try.underlying5 Try.underlying9 ([]) (.inr ⟨none, 0, 0, by kernel_rfl, (R8.nil _ _ _ _)⟩) (by kernel_rfl)
    · exact Obl.bin ⟨by kernel_rfl, by kernel_rfl, by kernel_rfl⟩ .eql _ (.tmp 29) (.tmp 31) _ rfl (.string ⟨([]).toArray⟩) (.string ⟨([]).toArray⟩) (.bool true) (by kernel_rfl) (by kernel_rfl) (eql_str _ _ _) (by kernel_rfl)
    · exact Obl.pick trivial _ _ _ rfl true (by kernel_rfl) (by kernel_rfl)
    · exact Obl.move trivial _ (Or.inl rfl) (by kernel_rfl)
    · exact Obl.pure ⟨by kernel_rfl, by kernel_rfl, by kernel_rfl⟩ (.agg #[.bool p.m, .int .i64 p.ty, .int .u16 (p.seq : Int), .int .u32 (p.time : Int), .int .u32 (p.ssrc : Int), .slice A1 p.csrc.length c1, .int .u16 (p.prof : Int), .slice A2 p.ext.length c2, .slice A3 p.pay.length c3]) (by kernel_rfl) (fun ev w hb hx => by
        have e1 : ev (.tmp 1) = .pointer (some ⟨P, 0, none⟩) := holds_val (hx (.tmp 1)) (by kernel_rfl)
        obtain ⟨m0, m1, m2, m3, m4, m5, m6, m7, m8⟩ := blk9 (hP.below ((drew_below _).trans hb) hPl); simp [execOp, e1, go_sem, m0, m1, m2, m3, m4, m5, m6, m7, m8])
    · exact Obl.call ⟨by kernel_rfl, by kernel_rfl, by kernel_rfl⟩ 38 #[.tmp 35] _ rfl Try.f38 Try.func38 (by kernel_rfl) (by kernel_rfl) (fun ev w hb hx => by
        have e35 : ev (.tmp 35) = .agg #[.bool p.m, .int .i64 p.ty, .int .u16 (p.seq : Int), .int .u32 (p.time : Int), .int .u32 (p.ssrc : Int), .slice A1 p.csrc.length c1, .int .u16 (p.prof : Int), .slice A2 p.ext.length c2, .slice A3 p.pay.length c3] := holds_val (hx (.tmp 35)) (by kernel_rfl)
        simp only [List.map_toArray, List.map_cons, List.map_nil, e35]
        exact ((hsz ▸ rtp_size p A1 c1 A2 c2 A3 c3 w hI.kinds)).mono fun _ _ hh => Val.holds (by kernel_rfl) hh)
    · exact Obl.move ⟨by kernel_rfl, by kernel_rfl, by kernel_rfl⟩ _ (Or.inl rfl) (by kernel_rfl)
    · exact Obl.lenV (x := (.tmp 37)) ⟨by kernel_rfl, by kernel_rfl, by kernel_rfl⟩ _ _ Try.underlying26 rfl (none) (0) (0) (by kernel_rfl) (by kernel_rfl)
    · exact Obl.bin ⟨by kernel_rfl, by kernel_rfl, by kernel_rfl⟩ .eql _ (.tmp 36) (.tmp 38) _ rfl (.int .i64 (0 : Nat)) (.int .i64 (0 : Nat)) (.bool true) (by kernel_rfl) (by kernel_rfl) (fun w => by simp [eqGuard, go_sem]) (by kernel_rfl)
    · exact Obl.pick trivial _ _ _ rfl true (by kernel_rfl) (by kernel_rfl)
    · exact Obl.move trivial _ (Or.inl rfl) (by kernel_rfl)
    · exact Obl.pure ⟨by kernel_rfl, by kernel_rfl, by kernel_rfl⟩ (.agg #[.bool p.m, .int .i64 p.ty, .int .u16 (p.seq : Int), .int .u32 (p.time : Int), .int .u32 (p.ssrc : Int), .slice A1 p.csrc.length c1, .int .u16 (p.prof : Int), .slice A2 p.ext.length c2, .slice A3 p.pay.length c3]) (by kernel_rfl) (fun ev w hb hx => by
        have e1 : ev (.tmp 1) = .pointer (some ⟨P, 0, none⟩) := holds_val (hx (.tmp 1)) (by kernel_rfl)
        obtain ⟨m0, m1, m2, m3, m4, m5, m6, m7, m8⟩ := blk9 (hP.below ((drew_below _).trans hb) hPl); simp [execOp, e1, go_sem, m0, m1, m2, m3, m4, m5, m6, m7, m8])
    · exact Obl.pure ⟨by kernel_rfl, by kernel_rfl, by kernel_rfl⟩ (.agg #[.bool p.m, .int .i64 p.ty, .int .u16 (p.seq : Int), .int .u32 (p.time : Int), .int .u32 (p.ssrc : Int), .slice A1 p.csrc.length c1, .int .u16 (p.prof : Int), .slice A2 p.ext.length c2, .slice A3 p.pay.length c3]) (by kernel_rfl) (fun ev w hb hx => by
        have e1 : ev (.tmp 1) = .pointer (some ⟨P, 0, none⟩) := holds_val (hx (.tmp 1)) (by kernel_rfl)
        obtain ⟨m0, m1, m2, m3, m4, m5, m6, m7, m8⟩ := blk9 (hP.below ((drew_below _).trans hb) hPl); simp [execOp, e1, go_sem, m0, m1, m2, m3, m4, m5, m6, m7, m8])
    · exact Obl.call ⟨by kernel_rfl, by kernel_rfl, by kernel_rfl⟩ 15 #[.tmp 42, .tmp 43] _ rfl Try.f15 Try.func15 (by kernel_rfl) (by kernel_rfl) (fun ev w hb hx => by
        have e42 : ev (.tmp 42) = .agg #[.bool p.m, .int .i64 p.ty, .int .u16 (p.seq : Int), .int .u32 (p.time : Int), .int .u32 (p.ssrc : Int), .slice A1 p.csrc.length c1, .int .u16 (p.prof : Int), .slice A2 p.ext.length c2, .slice A3 p.pay.length c3] := holds_val (hx (.tmp 42)) (by kernel_rfl)
        have e43 : ev (.tmp 43) = .agg #[.bool p.m, .int .i64 p.ty, .int .u16 (p.seq : Int), .int .u32 (p.time : Int), .int .u32 (p.ssrc : Int), .slice A1 p.csrc.length c1, .int .u16 (p.prof : Int), .slice A2 p.ext.length c2, .slice A3 p.pay.length c3] := holds_val (hx (.tmp 43)) (by kernel_rfl)
        simp only [List.map_toArray, List.map_cons, List.map_nil, e42, e43]
        exact ((samePk_refl p ▸ rtp_same p p A1 c1 A2 c2 A3 c3 A1 c1 A2 c2 A3 c3 w (hI.on ((drew_below _).trans hb)) (hI.on ((drew_below _).trans hb)))).mono fun _ _ hh => Val.holds (by kernel_rfl) hh)
    · exact Obl.pick trivial _ _ _ rfl true (by kernel_rfl) (by kernel_rfl)
    · exact Obl.move trivial _ (Or.inl rfl) (by kernel_rfl)
    · exact Obl.move ⟨by kernel_rfl, by kernel_rfl, by kernel_rfl⟩ _ (Or.inl rfl) (by kernel_rfl)
    · exact Obl.bin ⟨by kernel_rfl, by kernel_rfl, by kernel_rfl⟩ .neq _ (.tmp 47) (.const (.int .i64 0)) _ rfl (.int .i64 E) (.int .i64 0) (.bool true) (by kernel_rfl) (by kernel_rfl) (fun w => by simp [eqGuard, go_sem, hEne]) (by kernel_rfl)
    · exact Obl.move ⟨by kernel_rfl, by kernel_rfl, by kernel_rfl⟩ _ (Or.inl rfl) (by kernel_rfl)
    · exact Obl.skip 32 false (.bool true) rfl (by kernel_rfl) (by kernel_rfl) (by kernel_rfl) (by kernel_rfl) (fun w => holds_undef (by kernel_rfl))
    · exact Obl.skip 32 false (.bool true) rfl (by kernel_rfl) (by kernel_rfl) (by kernel_rfl) (by kernel_rfl) (fun w => holds_undef (by kernel_rfl))
    · exact Obl.pick ⟨by kernel_rfl, by kernel_rfl, by kernel_rfl⟩ _ _ _ rfl true (by kernel_rfl) (by kernel_rfl)
    · exact Obl.pick trivial _ _ _ rfl true (by kernel_rfl) (by kernel_rfl)
    · exact Obl.move trivial _ (Or.inr rfl) (by kernel_rfl)
    intro a w4 hb hsz9 hdf hold hv
    have h8 : a.tmps.getD 2 undef = .bool true := holds_val (hv 37 2 (by kernel_rfl)) (by kernel_rfl)
    obtain ⟨tm, df⟩ := a
    have hdf' : df = [] := hdf
    subst hdf'
    go_wp2
    go_ret
    exact ⟨congrArg _ h8, b3.drew.trans (hb.mono b3.size)⟩
end Go.Proofs.Ytpcdmcaojgpfoaa
