/- Contract: rtp.Same. -/
import Derived.Test.YtpcdmcaojgpfoaaCREq
namespace Go.Proofs.Ytpcdmcaojgpfoaa
open Go.RowKit
set_option linter.unusedVariables false
set_option linter.unusedSimpArgs false
set_option maxRecDepth 20000

set_option maxHeartbeats 4000000 in
theorem rtp_same (p q : Pkt) (A1 : Option Addr) (c1 : Nat) (A2 : Option Addr) (c2 : Nat) (A3 : Option Addr) (c3 : Nat) (B1 : Option Addr) (d1 : Nat) (B2 : Option Addr) (d2 : Nat) (B3 : Option Addr) (d3 : Nat) (w : World) (hp : IsP w w.heap.size A1 c1 A2 c2 A3 c3 p) (hq : IsP w w.heap.size B1 d1 B2 d2 B3 d3 q) :
    Calls Try.prog 15 #[p.val A1 c1 A2 c2 A3 c3, q.val B1 d1 B2 d2 B3 d3] w fun e w' => e = .returned (.bool (samePk p q)) ∧ Below w.heap.size w w' := by
  obtain ⟨m1, ty1, seq1, time1, ssrc1, csrc1, prof1, ext1, pay1⟩ := p
  obtain ⟨m2, ty2, seq2, time2, ssrc2, csrc2, prof2, ext2, pay2⟩ := q
  simp only [Pkt.val, samePk]
  obtain ⟨hp1, hp2, hp3, hp4⟩ := hp
  obtain ⟨hq1, hq2, hq3, hq4⟩ := hq
  simp only at hp1 hp2 hp3 hq1 hq2 hq3
  have l1 := hp4.csrc
  have l2 := hq4.csrc
  simp only at l1 l2
  have l3 := hp4.ext
  have l5 := hp4.pay
  simp only at l3 l5
  clear hp4 hq4
  have hb1 : Below w.heap.size w (w.alloc (.cells #[.bool m1, .int .i64 ty1, .int .u16 (seq1 : Int), .int .u32 (time1 : Int), .int .u32 (ssrc1 : Int), .slice A1 csrc1.length c1, .int .u16 (prof1 : Int), .slice A2 ext1.length c2, .slice A3 pay1.length c3] 28)) := (Below.refl w.heap.size w).alloc (Nat.le_refl _) _
  have hb2 : Below w.heap.size w ((w.alloc (.cells #[.bool m1, .int .i64 ty1, .int .u16 (seq1 : Int), .int .u32 (time1 : Int), .int .u32 (ssrc1 : Int), .slice A1 csrc1.length c1, .int .u16 (prof1 : Int), .slice A2 ext1.length c2, .slice A3 pay1.length c3] 28)).alloc (.cells #[.bool m2, .int .i64 ty2, .int .u16 (seq2 : Int), .int .u32 (time2 : Int), .int .u32 (ssrc2 : Int), .slice B1 csrc2.length d1, .int .u16 (prof2 : Int), .slice B2 ext2.length d2, .slice B3 pay2.length d3] 28)) := hb1.alloc hb1.size _
  have hZ1 : Blk (w.alloc (.cells #[.bool m1, .int .i64 ty1, .int .u16 (seq1 : Int), .int .u32 (time1 : Int), .int .u32 (ssrc1 : Int), .slice A1 csrc1.length c1, .int .u16 (prof1 : Int), .slice A2 ext1.length c2, .slice A3 pay1.length c3] 28)) w.heap.size 28 #[.bool m1, .int .i64 ty1, .int .u16 (seq1 : Int), .int .u32 (time1 : Int), .int .u32 (ssrc1 : Int), .slice A1 csrc1.length c1, .int .u16 (prof1 : Int), .slice A2 ext1.length c2, .slice A3 pay1.length c3] := Blk.new _ _ _
  have hZ2 : Blk ((w.alloc (.cells #[.bool m1, .int .i64 ty1, .int .u16 (seq1 : Int), .int .u32 (time1 : Int), .int .u32 (ssrc1 : Int), .slice A1 csrc1.length c1, .int .u16 (prof1 : Int), .slice A2 ext1.length c2, .slice A3 pay1.length c3] 28)).alloc (.cells #[.bool m2, .int .i64 ty2, .int .u16 (seq2 : Int), .int .u32 (time2 : Int), .int .u32 (ssrc2 : Int), .slice B1 csrc2.length d1, .int .u16 (prof2 : Int), .slice B2 ext2.length d2, .slice B3 pay2.length d3] 28)) (w.alloc (.cells #[.bool m1, .int .i64 ty1, .int .u16 (seq1 : Int), .int .u32 (time1 : Int), .int .u32 (ssrc1 : Int), .slice A1 csrc1.length c1, .int .u16 (prof1 : Int), .slice A2 ext1.length c2, .slice A3 pay1.length c3] 28)).heap.size 28 #[.bool m2, .int .i64 ty2, .int .u16 (seq2 : Int), .int .u32 (time2 : Int), .int .u32 (ssrc2 : Int), .slice B1 csrc2.length d1, .int .u16 (prof2 : Int), .slice B2 ext2.length d2, .slice B3 pay2.length d3] := Blk.new _ _ _
  have hZ3 : Blk ((w.alloc (.cells #[.bool m1, .int .i64 ty1, .int .u16 (seq1 : Int), .int .u32 (time1 : Int), .int .u32 (ssrc1 : Int), .slice A1 csrc1.length c1, .int .u16 (prof1 : Int), .slice A2 ext1.length c2, .slice A3 pay1.length c3] 28)).alloc (.cells #[.bool m2, .int .i64 ty2, .int .u16 (seq2 : Int), .int .u32 (time2 : Int), .int .u32 (ssrc2 : Int), .slice B1 csrc2.length d1, .int .u16 (prof2 : Int), .slice B2 ext2.length d2, .slice B3 pay2.length d3] 28)) w.heap.size 28 #[.bool m1, .int .i64 ty1, .int .u16 (seq1 : Int), .int .u32 (time1 : Int), .int .u32 (ssrc1 : Int), .slice A1 csrc1.length c1, .int .u16 (prof1 : Int), .slice A2 ext1.length c2, .slice A3 pay1.length c3] := (((Below.refl _ _).alloc (Nat.le_refl _) _).block _ hZ1.lt).trans hZ1
  have hsz : (w.alloc (.cells #[.bool m1, .int .i64 ty1, .int .u16 (seq1 : Int), .int .u32 (time1 : Int), .int .u32 (ssrc1 : Int), .slice A1 csrc1.length c1, .int .u16 (prof1 : Int), .slice A2 ext1.length c2, .slice A3 pay1.length c3] 28)).heap.size = w.heap.size + 1 := by simp
  rw [hsz] at hZ2
  go_enter Try.func15, Try.ntmps15
  go_upto_region 1 with (fail)
  clear hb1 hZ1 hsz
  revert hb2 hZ2 hZ3
  generalize ((w.alloc (.cells #[.bool m1, .int .i64 ty1, .int .u16 (seq1 : Int), .int .u32 (time1 : Int), .int .u32 (ssrc1 : Int), .slice A1 csrc1.length c1, .int .u16 (prof1 : Int), .slice A2 ext1.length c2, .slice A3 pay1.length c3] 28)).alloc (.cells #[.bool m2, .int .i64 ty2, .int .u16 (seq2 : Int), .int .u32 (time2 : Int), .int .u32 (ssrc2 : Int), .slice B1 csrc2.length d1, .int .u16 (prof2 : Int), .slice B2 ext2.length d2, .slice B3 pay2.length d3] 28)) = W
  intro hb2 hZ2 hZ3
  have k00 : W.cell? ⟨w.heap.size, 0, none⟩ = some (.bool m1) := hZ3.cell 0
  have k01 : W.cell? ⟨w.heap.size, 1, none⟩ = some (.int .i64 ty1) := hZ3.cell 1
  have k02 : W.cell? ⟨w.heap.size, 2, none⟩ = some (.int .u16 (seq1 : Int)) := hZ3.cell 2
  have k03 : W.cell? ⟨w.heap.size, 3, none⟩ = some (.int .u32 (time1 : Int)) := hZ3.cell 3
  have k04 : W.cell? ⟨w.heap.size, 4, none⟩ = some (.int .u32 (ssrc1 : Int)) := hZ3.cell 4
  have k05 : W.cell? ⟨w.heap.size, 5, none⟩ = some (.slice A1 csrc1.length c1) := hZ3.cell 5
  have k06 : W.cell? ⟨w.heap.size, 6, none⟩ = some (.int .u16 (prof1 : Int)) := hZ3.cell 6
  have k07 : W.cell? ⟨w.heap.size, 7, none⟩ = some (.slice A2 ext1.length c2) := hZ3.cell 7
  have k08 : W.cell? ⟨w.heap.size, 8, none⟩ = some (.slice A3 pay1.length c3) := hZ3.cell 8
  have k10 : W.cell? ⟨w.heap.size + 1, 0, none⟩ = some (.bool m2) := hZ2.cell 0
  have k11 : W.cell? ⟨w.heap.size + 1, 1, none⟩ = some (.int .i64 ty2) := hZ2.cell 1
  have k12 : W.cell? ⟨w.heap.size + 1, 2, none⟩ = some (.int .u16 (seq2 : Int)) := hZ2.cell 2
  have k13 : W.cell? ⟨w.heap.size + 1, 3, none⟩ = some (.int .u32 (time2 : Int)) := hZ2.cell 3
  have k14 : W.cell? ⟨w.heap.size + 1, 4, none⟩ = some (.int .u32 (ssrc2 : Int)) := hZ2.cell 4
  have k15 : W.cell? ⟨w.heap.size + 1, 5, none⟩ = some (.slice B1 csrc2.length d1) := hZ2.cell 5
  have k16 : W.cell? ⟨w.heap.size + 1, 6, none⟩ = some (.int .u16 (prof2 : Int)) := hZ2.cell 6
  have k17 : W.cell? ⟨w.heap.size + 1, 7, none⟩ = some (.slice B2 ext2.length d2) := hZ2.cell 7
  have k18 : W.cell? ⟨w.heap.size + 1, 8, none⟩ = some (.slice B3 pay2.length d3) := hZ2.cell 8
  have hl2 := hZ2.lt
  have hl3 := hZ3.lt
  have r1 := hp1.on hb2
  have r2 := hq1.on hb2
  have r3 := hp2.on hb2
  have r4 := hq2.on hb2
  have r5 := hp3.on hb2
  have r6 := hq3.on hb2
  clear hp1 hp2 hp3 hq1 hq2 hq3
  by_cases e : m1 = m2
  rotate_left
  · have g : (m1 == m2) = false := by simpa using e
    clear r1 r2 r3 r4 r5 r6 hZ2 hZ3
    go_wp2_with fail
    go_ret
    exact ⟨by simp [e], hb2⟩
  subst e
  by_cases e : ty1 = ty2
  rotate_left
  · have g : (ty1 == ty2) = false := by simpa using e
    clear r1 r2 r3 r4 r5 r6 hZ2 hZ3
    go_wp2_with fail
    go_ret
    exact ⟨by simp [e], hb2⟩
  subst e
  by_cases e : seq1 = seq2
  rotate_left
  · have g : ((seq1 : Int) == (seq2 : Int)) = false := by simp; omega
    clear r1 r2 r3 r4 r5 r6 hZ2 hZ3
    go_wp2_with fail
    go_ret
    exact ⟨by simp [e], hb2⟩
  subst e
  by_cases e : time1 = time2
  rotate_left
  · have g : ((time1 : Int) == (time2 : Int)) = false := by simp; omega
    clear r1 r2 r3 r4 r5 r6 hZ2 hZ3
    go_wp2_with fail
    go_ret
    exact ⟨by simp [e], hb2⟩
  subst e
  by_cases e : ssrc1 = ssrc2
  rotate_left
  · have g : ((ssrc1 : Int) == (ssrc2 : Int)) = false := by simp; omega
    clear r1 r2 r3 r4 r5 r6 hZ2 hZ3
    go_wp2_with fail
    go_ret
    exact ⟨by simp [e], hb2⟩
  subst e
  go_wp2_with fail
  refine (eq32 A1 _ c1 B1 _ d1 csrc1 csrc2 _ r1 r2 (by have := l1; have := l3; have := l5; omega)).mono ?_
  rintro e' W2 ⟨rfl, hb3⟩
  have hb2 := hb2.trans (hb3.mono hb2.size)
  have hZ2 := hZ2.below hb3 hl2
  have hZ3 := hZ3.below hb3 hl3
  have hl2 := hZ2.lt
  have hl3 := hZ3.lt
  have r1 := r1.on hb3
  have r2 := r2.on hb3
  have r3 := r3.on hb3
  have r4 := r4.on hb3
  have r5 := r5.on hb3
  have r6 := r6.on hb3
  clear k00 k01 k02 k03 k04 k05 k06 k07 k08 k10 k11 k12 k13 k14 k15 k16 k17 k18 hb3
  have k06 : W2.cell? ⟨w.heap.size, 6, none⟩ = some (.int .u16 (prof1 : Int)) := hZ3.cell 6
  have k07 : W2.cell? ⟨w.heap.size, 7, none⟩ = some (.slice A2 ext1.length c2) := hZ3.cell 7
  have k08 : W2.cell? ⟨w.heap.size, 8, none⟩ = some (.slice A3 pay1.length c3) := hZ3.cell 8
  have k16 : W2.cell? ⟨w.heap.size + 1, 6, none⟩ = some (.int .u16 (prof2 : Int)) := hZ2.cell 6
  have k17 : W2.cell? ⟨w.heap.size + 1, 7, none⟩ = some (.slice B2 ext2.length d2) := hZ2.cell 7
  have k18 : W2.cell? ⟨w.heap.size + 1, 8, none⟩ = some (.slice B3 pay2.length d3) := hZ2.cell 8
  by_cases e : csrc1 = csrc2
  rotate_left
  · have g : (csrc1 == csrc2) = false := by simpa using e
    clear r1 r2 r3 r4 r5 r6 hZ2 hZ3
    go_wp2_with fail
    go_ret
    exact ⟨by simp [e], hb2⟩
  subst e
  by_cases e : prof1 = prof2
  rotate_left
  · have g : ((prof1 : Int) == (prof2 : Int)) = false := by simp; omega
    clear r1 r2 r3 r4 r5 r6 hZ2 hZ3
    go_wp2_with fail
    go_ret
    exact ⟨by simp [e], hb2⟩
  subst e
  go_wp2_with fail
  refine (eq8 A2 _ c2 B2 _ d2 ext1 ext2 _ r3 r4 (by have := l1; have := l3; have := l5; omega)).mono ?_
  rintro e' W3 ⟨rfl, hb3⟩
  have hb2 := hb2.trans (hb3.mono hb2.size)
  have hZ2 := hZ2.below hb3 hl2
  have hZ3 := hZ3.below hb3 hl3
  have hl2 := hZ2.lt
  have hl3 := hZ3.lt
  have r1 := r1.on hb3
  have r2 := r2.on hb3
  have r3 := r3.on hb3
  have r4 := r4.on hb3
  have r5 := r5.on hb3
  have r6 := r6.on hb3
  clear k06 k07 k08 k16 k17 k18 hb3
  have k08 : W3.cell? ⟨w.heap.size, 8, none⟩ = some (.slice A3 pay1.length c3) := hZ3.cell 8
  have k18 : W3.cell? ⟨w.heap.size + 1, 8, none⟩ = some (.slice B3 pay2.length d3) := hZ2.cell 8
  by_cases e : ext1 = ext2
  rotate_left
  · have g : (ext1 == ext2) = false := by simpa using e
    clear r1 r2 r3 r4 r5 r6 hZ2 hZ3
    go_wp2_with fail
    go_ret
    exact ⟨by simp [e], hb2⟩
  subst e
  go_wp2_with fail
  refine (eq8 A3 _ c3 B3 _ d3 pay1 pay2 _ r5 r6 (by have := l5; omega)).mono ?_
  rintro e' W4 ⟨rfl, hb3⟩
  have hb2 := hb2.trans (hb3.mono hb2.size)
  clear k08 k18 hb3 r1 r2 r3 r4 r5 r6 hZ2 hZ3
  go_wp2_with fail
  go_ret
  exact ⟨by simp, hb2⟩
end Go.Proofs.Ytpcdmcaojgpfoaa
