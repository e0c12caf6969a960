/- Contract: limelightlaw3.reads. -/
import Derived.Test.YtpcdmcaojgpfoaaCRRead
import Derived.Test.YtpcdmcaojgpfoaaCR3Read
import Derived.Test.YtpcdmcaojgpfoaaRegL
import Derived.Test.YtpcdmcaojgpfoaaRdQ
namespace Go.Proofs.Ytpcdmcaojgpfoaa
open Go.RowKit
set_option linter.unusedVariables false
set_option linter.unusedSimpArgs false
set_option maxRecDepth 20000

set_option maxHeartbeats 2000000 in
theorem law_reads (A : Option Addr) (n c : Nat) (l : List UInt8) (w : World) (h : R8 w w.heap.size A n c l) (hn : n ≤ 140737488355328) :
    Calls Try.prog 14 #[.slice A n c] w (Yes w) := by
  have k1 := fun W (hW : R8 W W.heap.size A n c l) => rtp_read A n c l W hW hn
  have k2 := fun W (hW : R8 W W.heap.size A n c l) => ref_read A n c l W hW hn
  unfold ReadOut at k1 k2
  generalize rdP l = p at k1 k2
  generalize rdErr l = E at k1 k2
  go_enter Try.func14, Try.ntmps14
  go_wp2_with fail
  refine (k1 _ h).mono ?_
  rintro e w1 ⟨A1, c1, A2, c2, A3, c3, rfl, hI, b1⟩
  simp only [Pkt.val]
  have h1 := h.on b1
  go_upto_region 2 with (fail)
  have hP := Blk.new w1 28 #[.bool p.m, .int .i64 p.ty, .int .u16 (p.seq : Int), .int .u32 (p.time : Int), .int .u32 (p.ssrc : Int), .slice A1 p.csrc.length c1, .int .u16 (p.prof : Int), .slice A2 p.ext.length c2, .slice A3 p.pay.length c3]
  have bz := (Below.refl _ w1).alloc (Nat.le_refl _) (.cells #[.bool p.m, .int .i64 p.ty, .int .u16 (p.seq : Int), .int .u32 (p.time : Int), .int .u32 (p.ssrc : Int), .slice A1 p.csrc.length c1, .int .u16 (p.prof : Int), .slice A2 p.ext.length c2, .slice A3 p.pay.length c3] 28)
  have b2 := b1.trans (bz.mono b1.size)
  have hI := hI.on bz
  have h2 := h1.on bz
  clear bz b1 h1 h k1
  generalize w1.alloc (.cells #[.bool p.m, .int .i64 p.ty, .int .u16 (p.seq : Int), .int .u32 (p.time : Int), .int .u32 (p.ssrc : Int), .slice A1 p.csrc.length c1, .int .u16 (p.prof : Int), .slice A2 p.ext.length c2, .slice A3 p.pay.length c3] 28) = W2 at hP b2 hI h2 ⊢
  generalize w1.heap.size = P at hP ⊢
  go_wp2_with fail
  refine (k2 _ h2).mono ?_
  rintro e w3 ⟨B1, d1, B2, d2, B3, d3, rfl, hJ, bz⟩
  simp only [Pkt.val]
  have b3 := b2.trans (bz.mono b2.size)
  have hI := hI.on bz
  have hP := hP.below bz hP.lt
  clear bz b2 h2 k2
  go_upto_region 3 with (fail)
  have hQ := Blk.new w3 28 #[.bool p.m, .int .i64 p.ty, .int .u16 (p.seq : Int), .int .u32 (p.time : Int), .int .u32 (p.ssrc : Int), .slice B1 p.csrc.length d1, .int .u16 (p.prof : Int), .slice B2 p.ext.length d2, .slice B3 p.pay.length d3]
  have bz := (Below.refl _ w3).alloc (Nat.le_refl _) (.cells #[.bool p.m, .int .i64 p.ty, .int .u16 (p.seq : Int), .int .u32 (p.time : Int), .int .u32 (p.ssrc : Int), .slice B1 p.csrc.length d1, .int .u16 (p.prof : Int), .slice B2 p.ext.length d2, .slice B3 p.pay.length d3] 28)
  have b4 := b3.trans (bz.mono b3.size)
  have hI := hI.on bz
  have hJ := hJ.on bz
  have hP := hP.below bz hP.lt
  clear bz b3
  generalize w3.alloc (.cells #[.bool p.m, .int .i64 p.ty, .int .u16 (p.seq : Int), .int .u32 (p.time : Int), .int .u32 (p.ssrc : Int), .slice B1 p.csrc.length d1, .int .u16 (p.prof : Int), .slice B2 p.ext.length d2, .slice B3 p.pay.length d3] 28) = W4 at hP hQ b4 hI hJ ⊢
  generalize w3.heap.size = Q at hQ ⊢
  obtain ⟨k0, k1, k2, k3, k4, k5, k6, k7, k8⟩ := blk9 hP
  obtain ⟨j0, j1, j2, j3, j4, j5, j6, j7, j8⟩ := blk9 hQ
  go_wp2_with fail
  clear k0 k1 k2 k3 k4 k5 k6 k7 k8 j0 j1 j2 j3 j4 j5 j6 j7 j8
  refine (show Calls _ _ #[.agg #[.bool p.m, .int .i64 p.ty, .int .u16 (p.seq : Int), .int .u32 (p.time : Int), .int .u32 (p.ssrc : Int), .slice A1 p.csrc.length c1, .int .u16 (p.prof : Int), .slice A2 p.ext.length c2, .slice A3 p.pay.length c3], .agg #[.bool p.m, .int .i64 p.ty, .int .u16 (p.seq : Int), .int .u32 (p.time : Int), .int .u32 (p.ssrc : Int), .slice B1 p.csrc.length d1, .int .u16 (p.prof : Int), .slice B2 p.ext.length d2, .slice B3 p.pay.length d3]] _ _ from ref_same p p A1 c1 A2 c2 A3 c3 B1 d1 B2 d2 B3 d3 W4 hI hJ).mono ?_
  rw [samePk_refl p]
  rintro e w5 ⟨rfl, bz⟩
  have b5 := b4.trans (bz.mono b4.size)
  clear bz b4 hI hJ hP hQ
  go_wp2_with fail
  go_ret
  exact ⟨rfl, b5⟩
end Go.Proofs.Ytpcdmcaojgpfoaa
