/- Contracts: limelightref3.num, Same. -/
import Derived.Test.YtpcdmcaojgpfoaaPkt
import Derived.Test.YtpcdmcaojgpfoaaCRefGet
import Derived.BigQuiet
import Derived.Deep.QuietTactic
import Derived.Deep.CutRange
namespace Go.Proofs.Ytpcdmcaojgpfoaa
open Go.RowKit
set_option linter.unusedVariables false
set_option linter.unusedSimpArgs false
set_option maxRecDepth 20000

theorem below_drewN_ (B : Nat) (w : World) (n : Nat) : Below B w (w.drewN n) := ⟨rfl, rfl, rfl, Nat.le_refl _, fun _ _ => rfl⟩
theorem ref_num (A : Option Addr) (n c : Nat) (l : List UInt8) (w : World) (h : R8 w w.heap.size A n c l) (hn : n ≤ 140737488355328) (i k : Int) (hi : I64 i) :
    Calls Try.prog 64 #[.slice A n c, .int .i64 i, .int .i64 k] w fun e w' => e = .returned (.int .u64 (getN l i k : Nat)) ∧ w = w' := by
  go_enter Try.func64, Try.ntmps64
  go_wp2_with fail
  refine (ref_get_any A n c l _ h hn i k hi).mono ?_
  rintro e w' ⟨rfl, rfl⟩
  go_wp2_with fail
  go_ret
  exact ⟨rfl, rfl⟩
theorem take_succ_eq (a b : List Nat) (q : Nat) (h : q < a.length) (hl : a.length = b.length) (ht : a.take q = b.take q) (he : a.getD q 0 = b.getD q 0) : a.take (q + 1) = b.take (q + 1) := by
  have hb : q < b.length := by omega
  rw [List.take_add_one, List.take_add_one, ht]
  simp only [List.getD_eq_getElem?_getD, List.getElem?_eq_getElem h, List.getElem?_eq_getElem hb, Option.getD_some] at he ⊢
  rw [he]
def samePk (p q : Pkt) : Bool := (p.m == q.m) && ((p.ty == q.ty) && ((p.seq == q.seq) && ((p.time == q.time) && ((p.ssrc == q.ssrc) && ((p.prof == q.prof) && ((p.ext == q.ext) && ((p.pay == q.pay) && (p.csrc == q.csrc))))))))
set_option maxHeartbeats 4000000 in
theorem ref_same (p q : Pkt) (A1 : Option Addr) (c1 : Nat) (A2 : Option Addr) (c2 : Nat) (A3 : Option Addr) (c3 : Nat) (B1 : Option Addr) (d1 : Nat) (B2 : Option Addr) (d2 : Nat) (B3 : Option Addr) (d3 : Nat) (w : World) (hp : IsP w w.heap.size A1 c1 A2 c2 A3 c3 p) (hq : IsP w w.heap.size B1 d1 B2 d2 B3 d3 q) :
    Calls Try.prog 16 #[p.val A1 c1 A2 c2 A3 c3, q.val B1 d1 B2 d2 B3 d3] w fun e w' => e = .returned (.bool (samePk p q)) ∧ Below w.heap.size w w' := by
  obtain ⟨m1, ty1, seq1, time1, ssrc1, csrc1, prof1, ext1, pay1⟩ := p
  obtain ⟨m2, ty2, seq2, time2, ssrc2, csrc2, prof2, ext2, pay2⟩ := q
  simp only [Pkt.val, samePk]
  obtain ⟨hp1, hp2, hp3, hp4⟩ := hp
  obtain ⟨hq1, hq2, hq3, hq4⟩ := hq
  simp only at hp1 hp2 hp3 hq1 hq2 hq3
  have l1 := hp4.csrc
  have l2 := hq4.csrc
  simp only at l1 l2
  clear hp4 hq4
  have hb1 : Below w.heap.size w (w.alloc (.cells #[.bool m1, .int .i64 ty1, .int .u16 (seq1 : Int), .int .u32 (time1 : Int), .int .u32 (ssrc1 : Int), .slice A1 csrc1.length c1, .int .u16 (prof1 : Int), .slice A2 ext1.length c2, .slice A3 pay1.length c3] 28)) := (Below.refl w.heap.size w).alloc (Nat.le_refl _) _
  have hb2 : Below w.heap.size w ((w.alloc (.cells #[.bool m1, .int .i64 ty1, .int .u16 (seq1 : Int), .int .u32 (time1 : Int), .int .u32 (ssrc1 : Int), .slice A1 csrc1.length c1, .int .u16 (prof1 : Int), .slice A2 ext1.length c2, .slice A3 pay1.length c3] 28)).alloc (.cells #[.bool m2, .int .i64 ty2, .int .u16 (seq2 : Int), .int .u32 (time2 : Int), .int .u32 (ssrc2 : Int), .slice B1 csrc2.length d1, .int .u16 (prof2 : Int), .slice B2 ext2.length d2, .slice B3 pay2.length d3] 28)) := hb1.alloc hb1.size _
  have hZ1 : Blk (w.alloc (.cells #[.bool m1, .int .i64 ty1, .int .u16 (seq1 : Int), .int .u32 (time1 : Int), .int .u32 (ssrc1 : Int), .slice A1 csrc1.length c1, .int .u16 (prof1 : Int), .slice A2 ext1.length c2, .slice A3 pay1.length c3] 28)) w.heap.size 28 #[.bool m1, .int .i64 ty1, .int .u16 (seq1 : Int), .int .u32 (time1 : Int), .int .u32 (ssrc1 : Int), .slice A1 csrc1.length c1, .int .u16 (prof1 : Int), .slice A2 ext1.length c2, .slice A3 pay1.length c3] := Blk.new _ _ _
  have hZ2 : Blk ((w.alloc (.cells #[.bool m1, .int .i64 ty1, .int .u16 (seq1 : Int), .int .u32 (time1 : Int), .int .u32 (ssrc1 : Int), .slice A1 csrc1.length c1, .int .u16 (prof1 : Int), .slice A2 ext1.length c2, .slice A3 pay1.length c3] 28)).alloc (.cells #[.bool m2, .int .i64 ty2, .int .u16 (seq2 : Int), .int .u32 (time2 : Int), .int .u32 (ssrc2 : Int), .slice B1 csrc2.length d1, .int .u16 (prof2 : Int), .slice B2 ext2.length d2, .slice B3 pay2.length d3] 28)) (w.alloc (.cells #[.bool m1, .int .i64 ty1, .int .u16 (seq1 : Int), .int .u32 (time1 : Int), .int .u32 (ssrc1 : Int), .slice A1 csrc1.length c1, .int .u16 (prof1 : Int), .slice A2 ext1.length c2, .slice A3 pay1.length c3] 28)).heap.size 28 #[.bool m2, .int .i64 ty2, .int .u16 (seq2 : Int), .int .u32 (time2 : Int), .int .u32 (ssrc2 : Int), .slice B1 csrc2.length d1, .int .u16 (prof2 : Int), .slice B2 ext2.length d2, .slice B3 pay2.length d3] := Blk.new _ _ _
  have hZ3 : Blk ((w.alloc (.cells #[.bool m1, .int .i64 ty1, .int .u16 (seq1 : Int), .int .u32 (time1 : Int), .int .u32 (ssrc1 : Int), .slice A1 csrc1.length c1, .int .u16 (prof1 : Int), .slice A2 ext1.length c2, .slice A3 pay1.length c3] 28)).alloc (.cells #[.bool m2, .int .i64 ty2, .int .u16 (seq2 : Int), .int .u32 (time2 : Int), .int .u32 (ssrc2 : Int), .slice B1 csrc2.length d1, .int .u16 (prof2 : Int), .slice B2 ext2.length d2, .slice B3 pay2.length d3] 28)) w.heap.size 28 #[.bool m1, .int .i64 ty1, .int .u16 (seq1 : Int), .int .u32 (time1 : Int), .int .u32 (ssrc1 : Int), .slice A1 csrc1.length c1, .int .u16 (prof1 : Int), .slice A2 ext1.length c2, .slice A3 pay1.length c3] := (((Below.refl _ _).alloc (Nat.le_refl _) _).block _ hZ1.lt).trans hZ1
  have hsz : (w.alloc (.cells #[.bool m1, .int .i64 ty1, .int .u16 (seq1 : Int), .int .u32 (time1 : Int), .int .u32 (ssrc1 : Int), .slice A1 csrc1.length c1, .int .u16 (prof1 : Int), .slice A2 ext1.length c2, .slice A3 pay1.length c3] 28)).heap.size = w.heap.size + 1 := by simp
  rw [hsz] at hZ2
  go_enter Try.func16, Try.ntmps16
  go_upto_region 1 with (fail)
  clear hb1 hZ1 hsz
  revert hb2 hZ2 hZ3
  generalize ((w.alloc (.cells #[.bool m1, .int .i64 ty1, .int .u16 (seq1 : Int), .int .u32 (time1 : Int), .int .u32 (ssrc1 : Int), .slice A1 csrc1.length c1, .int .u16 (prof1 : Int), .slice A2 ext1.length c2, .slice A3 pay1.length c3] 28)).alloc (.cells #[.bool m2, .int .i64 ty2, .int .u16 (seq2 : Int), .int .u32 (time2 : Int), .int .u32 (ssrc2 : Int), .slice B1 csrc2.length d1, .int .u16 (prof2 : Int), .slice B2 ext2.length d2, .slice B3 pay2.length d3] 28)) = W
  intro hb2 hZ2 hZ3
  have k00 : W.cell? ⟨w.heap.size, 0, none⟩ = some (.bool m1) := hZ3.cell 0
  have k01 : W.cell? ⟨w.heap.size, 1, none⟩ = some (.int .i64 ty1) := hZ3.cell 1
  have k02 : W.cell? ⟨w.heap.size, 2, none⟩ = some (.int .u16 (seq1 : Int)) := hZ3.cell 2
  have k03 : W.cell? ⟨w.heap.size, 3, none⟩ = some (.int .u32 (time1 : Int)) := hZ3.cell 3
  have k04 : W.cell? ⟨w.heap.size, 4, none⟩ = some (.int .u32 (ssrc1 : Int)) := hZ3.cell 4
  have k05 : W.cell? ⟨w.heap.size, 5, none⟩ = some (.slice A1 csrc1.length c1) := hZ3.cell 5
  have k06 : W.cell? ⟨w.heap.size, 6, none⟩ = some (.int .u16 (prof1 : Int)) := hZ3.cell 6
  have k07 : W.cell? ⟨w.heap.size, 7, none⟩ = some (.slice A2 ext1.length c2) := hZ3.cell 7
  have k08 : W.cell? ⟨w.heap.size, 8, none⟩ = some (.slice A3 pay1.length c3) := hZ3.cell 8
  have k10 : W.cell? ⟨w.heap.size + 1, 0, none⟩ = some (.bool m2) := hZ2.cell 0
  have k11 : W.cell? ⟨w.heap.size + 1, 1, none⟩ = some (.int .i64 ty2) := hZ2.cell 1
  have k12 : W.cell? ⟨w.heap.size + 1, 2, none⟩ = some (.int .u16 (seq2 : Int)) := hZ2.cell 2
  have k13 : W.cell? ⟨w.heap.size + 1, 3, none⟩ = some (.int .u32 (time2 : Int)) := hZ2.cell 3
  have k14 : W.cell? ⟨w.heap.size + 1, 4, none⟩ = some (.int .u32 (ssrc2 : Int)) := hZ2.cell 4
  have k15 : W.cell? ⟨w.heap.size + 1, 5, none⟩ = some (.slice B1 csrc2.length d1) := hZ2.cell 5
  have k16 : W.cell? ⟨w.heap.size + 1, 6, none⟩ = some (.int .u16 (prof2 : Int)) := hZ2.cell 6
  have k17 : W.cell? ⟨w.heap.size + 1, 7, none⟩ = some (.slice B2 ext2.length d2) := hZ2.cell 7
  have k18 : W.cell? ⟨w.heap.size + 1, 8, none⟩ = some (.slice B3 pay2.length d3) := hZ2.cell 8
  have s1 := (hp2.on hb2).string (P := Try.prog) 26 5 9 Try.underlying26 Try.underlying5 Try.underlying9
  have s2 := (hq2.on hb2).string (P := Try.prog) 26 5 9 Try.underlying26 Try.underlying5 Try.underlying9
  have s3 := (hp3.on hb2).string (P := Try.prog) 26 5 9 Try.underlying26 Try.underlying5 Try.underlying9
  have s4 := (hq3.on hb2).string (P := Try.prog) 26 5 9 Try.underlying26 Try.underlying5 Try.underlying9
  have r1 := hp1.on hb2
  have r2 := hq1.on hb2
  clear hp1 hp2 hp3 hq1 hq2 hq3 hZ2 hZ3
  by_cases e : m1 = m2
  rotate_left
  · have g : (m1 != m2) = true := by simpa using e
    clear s1 s2 s3 s4 r1 r2
    go_wp2_with fail
    go_ret
    exact ⟨by simp [e], hb2⟩
  subst e
  by_cases e : ty1 = ty2
  rotate_left
  · have g : (ty1 != ty2) = true := by simpa using e
    clear s1 s2 s3 s4 r1 r2
    go_wp2_with fail
    go_ret
    exact ⟨by simp [e], hb2⟩
  subst e
  by_cases e : seq1 = seq2
  rotate_left
  · have g : ((seq1 : Int) != (seq2 : Int)) = true := by simp; omega
    clear s1 s2 s3 s4 r1 r2
    go_wp2_with fail
    go_ret
    exact ⟨by simp [e], hb2⟩
  subst e
  by_cases e : time1 = time2
  rotate_left
  · have g : ((time1 : Int) != (time2 : Int)) = true := by simp; omega
    clear s1 s2 s3 s4 r1 r2
    go_wp2_with fail
    go_ret
    exact ⟨by simp [e], hb2⟩
  subst e
  by_cases e : ssrc1 = ssrc2
  rotate_left
  · have g : ((ssrc1 : Int) != (ssrc2 : Int)) = true := by simp; omega
    clear s1 s2 s3 s4 r1 r2
    go_wp2_with fail
    go_ret
    exact ⟨by simp [e], hb2⟩
  subst e
  by_cases e : prof1 = prof2
  rotate_left
  · have g : ((prof1 : Int) != (prof2 : Int)) = true := by simp; omega
    clear s1 s2 s3 s4 r1 r2
    go_wp2_with fail
    go_ret
    exact ⟨by simp [e], hb2⟩
  subst e
  by_cases e : ext1 = ext2
  rotate_left
  · have g : (ext1 == ext2) = false := by simpa using e
    clear s3 s4 r1 r2
    go_wp2_with fail
    go_ret
    exact ⟨by simp [e], hb2⟩
  subst e
  by_cases e : pay1 = pay2
  rotate_left
  · have g : (pay1 == pay2) = false := by simpa using e
    clear r1 r2
    go_wp2_with fail
    go_ret
    exact ⟨by simp [e], hb2⟩
  subst e
  by_cases e : csrc1.length = csrc2.length
  rotate_left
  · have g : ((csrc1.length : Int) != (csrc2.length : Int)) = true := by simp; omega
    have e' : csrc1 ≠ csrc2 := fun h => e (congrArg List.length h)
    clear r1 r2
    go_wp2_with fail
    go_ret
    exact ⟨by simp [e'], hb2⟩
  have g : ((csrc1.length : Int) != (csrc2.length : Int)) = false := by simp; omega
  have hln := Lib.hid e
  have hln' := e
  clear e
  go_wp2_with fail
  clear s1 s2 s3 s4 g hln'
  go_loopw [5, 76] (fun _ i wr => ∃ q : Nat, q ≤ csrc1.length ∧ i = .int .i64 (q : Int) ∧ csrc1.take q = csrc2.take q ∧ ∃ k, wr = W.drewN k) (fun _ i _ => csrc1.length - (intOf i).toNat)
  case atStart => exact ⟨0, by omega, rfl, by simp, 0, rfl⟩
  case round =>
    obtain ⟨q, hq, rfl, htk, k, rfl⟩ := hrel
    by_cases hlt : q < csrc1.length
    · have g3 : decide ((q : Int) < (csrc1.length : Int)) = true := by simp; omega
      have g4 : (q : Int) < (csrc2.length : Int) := by have := hln.out; omega
      have g5 : (q : Int) < (csrc1.length : Int) := by omega
      obtain ⟨x1, y1, rfl, z1, u1⟩ := r1.2.2.2 (by omega)
      obtain ⟨x2, y2, rfl, z2, u2⟩ := r2.2.2.2 (by have := hln.out; omega)
      have t1 := u1 q hlt
      have t2 := u2 q (by have := hln.out; omega)
      clear u1 u2 r1 r2
      generalize hA : csrc1.getD q 0 = a at t1
      generalize hB : csrc2.getD q 0 = b at t2
      have hA' := Lib.hid hA
      have hB' := Lib.hid hB
      clear hA hB
      go_wp2_with fail
      go_quiet (fail)
      by_cases he : a = b
      · have g6 : ((a : Int) != (b : Int)) = false := by rw [he]; simp
        have he' := Lib.hid he
        clear he
        go_wp2_with fail
        refine ⟨⟨q + 1, by omega, by push_cast; rfl, ?_, _, rfl⟩, ?_⟩
        · exact take_succ_eq csrc1 csrc2 q hlt hln.out htk (hA'.out.trans (he'.out.trans hB'.out.symm))
        · simp only [intOf]; omega
      · have g6 : ((a : Int) != (b : Int)) = true := by simp only [bne_iff_ne, ne_eq]; omega
        have hne : csrc1 ≠ csrc2 := by rintro rfl; exact he (hA'.out.symm.trans hB'.out)
        clear htk
        go_wp2_with fail
        go_ret
        exact ⟨by simp [hne], (hb2.trans (below_drewN_ _ _ _)).trans (below_drewN_ _ _ _)⟩
    · have g3 : decide ((q : Int) < (csrc2.length : Int)) = false := by have := hln.out; simp; omega
      have g4 : ¬ (q < csrc2.length) := by have := hln.out; omega
      have hall : csrc1 = csrc2 := by
        rwa [List.take_of_length_le (by omega), List.take_of_length_le (by have := hln.out; omega)] at htk
      clear htk
      go_wp2_with fail
      go_ret
      exact ⟨by simp [hall], hb2.trans (below_drewN_ _ _ _)⟩
end Go.Proofs.Ytpcdmcaojgpfoaa
