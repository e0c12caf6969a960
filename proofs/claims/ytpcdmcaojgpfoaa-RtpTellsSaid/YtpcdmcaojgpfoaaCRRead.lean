/- Contract: rtp.Read. -/
import Derived.Test.YtpcdmcaojgpfoaaCRReadH
import Derived.Test.YtpcdmcaojgpfoaaRdOut
namespace Go.Proofs.Ytpcdmcaojgpfoaa
open Go.RowKit
set_option linter.unusedVariables false
set_option linter.unusedSimpArgs false
set_option maxRecDepth 20000

set_option maxHeartbeats 1600000 in
theorem rtp_read (A : Option Addr) (n c : Nat) (l : List UInt8) (w : World) (h : R8 w w.heap.size A n c l) (hn0 : n ≤ 140737488355328) :
    Calls Try.prog 39 #[.slice A n c] w (ReadOut l w) := by
  have hl := h.1
  have hbt := bt_lt l 0
  have hR0 : Blk (w.alloc (.cells #[.bool false, .int .i64 0, .int .u16 0, .int .u32 0, .int .u32 0, .slice none 0 0, .int .u16 0, .slice none 0 0, .slice none 0 0] 28)) w.heap.size 28 #[.bool false, .int .i64 0, .int .u16 0, .int .u32 0, .int .u32 0, .slice none 0 0, .int .u16 0, .slice none 0 0, .slice none 0 0] := Blk.new _ _ _
  have b0 : Below w.heap.size w (w.alloc (.cells #[.bool false, .int .i64 0, .int .u16 0, .int .u32 0, .int .u32 0, .slice none 0 0, .int .u16 0, .slice none 0 0, .slice none 0 0] 28)) := (Below.refl _ w).alloc (Nat.le_refl _) _
  have hlt0 := hR0.lt
  go_enter Try.func39, Try.ntmps39
  by_cases g1 : 1500 < n
  · have gg : (1500 : Int) < (n : Int) := by omega
    have he := Lib.hid (rerr_long (l := l) (by omega))
    clear h hR0 b0 hlt0
    go_wp2_with fail
    refine bodyPost_ret (by simp [results, Try.results39, go_sem]; try rfl) rfl ?_
    exact ReadOut.no he.out (by decide) (by go_grown)
  have gg : ¬ (1500 : Int) < (n : Int) := by omega
  by_cases g2 : n = 0
  · have he := Lib.hid (rerr_none (l := l) (by omega))
    have gz : ((n : Int) == 0) = true := by simp; omega
    clear h hR0 b0 hlt0
    go_wp2_with fail
    refine bodyPost_ret (by simp [results, Try.results39, go_sem]; try rfl) rfl ?_
    exact ReadOut.no he.out (by decide) (by go_grown)
  have gz : ((n : Int) == 0) = false := by simp; omega
  have g0 : (0 : Int) < (n : Int) := by omega
  have c0 : ∃ b off, A = some ⟨b, off, none⟩ ∧ b < w.heap.size ∧ w.cell? ⟨b, off, none⟩ = some (.int .u8 (bt l 0 : Int)) := by
    obtain ⟨b, off, e, hlt, hc⟩ := h.2.2 (by omega)
    exact ⟨b, off, e, hlt, by have := hc 0 (by omega); simpa [bt] using this⟩
  obtain ⟨b, off, rfl, hbl, c0⟩ := c0
  by_cases g3 : bt l 0 / 64 = 2
  rotate_left
  · have he := Lib.hid (rerr_version (l := l) (by omega) (by omega) g3)
    have gv : (bits BinOp.and .u8 (bt l 0 : Int) 192 != 128) = true := by rw [and192 _ hbt]; simp; omega
    clear h hR0 b0 hlt0 g3
    go_wp2_with fail
    refine bodyPost_ret (by simp [results, Try.results39, go_sem]; try rfl) rfl ?_
    exact ReadOut.no he.out (by decide) (by go_grown)
  have gv : (bits BinOp.and .u8 (bt l 0 : Int) 192 != 128) = false := by rw [and192 _ hbt, g3]; rfl
  have g3h := Lib.hid g3
  have hlh := Lib.hid hl
  have hnh := Lib.hid (show l.length ≠ 0 by omega)
  have hnn := Lib.hid (show l.length ≤ 1500 by omega)
  clear g3 hl
  go_wp2_with fail
  refine (rtp_find _ n c l _ (h.on b0) (by omega) (by omega)).mono ?_
  rintro e w2 ⟨a1, a2, a3, rfl, hfe, b2⟩
  have hR2 : Blk w2 w.heap.size 28 #[.bool false, .int .i64 0, .int .u16 0, .int .u32 0, .int .u32 0, .slice none 0 0, .int .u16 0, .slice none 0 0, .slice none 0 0] := (b2.block _ hlt0).trans hR0
  have b02 := b0.trans (b2.mono b0.size)
  have hlt2 := hR2.lt
  clear gv hR0 b0 hlt0 b2 gg gz c0
  by_cases hf : fit l = true
  rotate_left
  · have hf' : fit l = false := by simpa using hf
    have he := Lib.hid (rerr_fit (l := l) hnn.out hnh.out g3h.out hf')
    rw [hf']
    clear hf hf' hfe h
    go_upto_region 8 with (fail)
    have hR3 : Blk (w2.alloc (.cells #[.int .i64 a1, .int .i64 a2, .int .i64 a3] 89)) w.heap.size 28 #[.bool false, .int .i64 0, .int .u16 0, .int .u32 0, .int .u32 0, .slice none 0 0, .int .u16 0, .slice none 0 0, .slice none 0 0] := hR2.alloc _
    have b3 := b02.alloc (Nat.le_of_lt hlt2) (.cells #[.int .i64 a1, .int .i64 a2, .int .i64 a3] 89)
    clear hR2 b02
    revert hR3 b3
    generalize w2.alloc (.cells #[.int .i64 a1, .int .i64 a2, .int .i64 a3] 89) = W3
    intro hR3 b3
    obtain ⟨k0, k1, k2, k3, k4, k5, k6, k7, k8⟩ := blk9 hR3
    have z0 := hR3.frozen 0
    have z1 := hR3.frozen 1
    have z2 := hR3.frozen 2
    have z3 := hR3.frozen 3
    have z4 := hR3.frozen 4
    have z5 := hR3.frozen 5
    have z6 := hR3.frozen 6
    have z7 := hR3.frozen 7
    have z8 := hR3.frozen 8
    go_wp2_with fail
    have hF := set9_blk (v0 := .bool false) (v1 := .int .i64 0) (v2 := .int .u16 0) (v3 := .int .u32 0) (v4 := .int .u32 0) (v5 := .slice none 0 0) (v6 := .int .u16 0) (v7 := .slice none 0 0) (v8 := .slice none 0 0) hR3
    have hG := b3.trans (set9_below (W := W3) (R := w.heap.size) (v0 := .bool false) (v1 := .int .i64 0) (v2 := .int .u16 0) (v3 := .int .u32 0) (v4 := .int .u32 0) (v5 := .slice none 0 0) (v6 := .int .u16 0) (v7 := .slice none 0 0) (v8 := .slice none 0 0) (Nat.le_refl _))
    change bodyPost _ _ _ _ _ (set9 W3 w.heap.size (.bool false) (.int .i64 0) (.int .u16 0) (.int .u32 0) (.int .u32 0) (.slice none 0 0) (.int .u16 0) (.slice none 0 0) (.slice none 0 0))
    generalize set9 W3 w.heap.size (.bool false) (.int .i64 0) (.int .u16 0) (.int .u32 0) (.int .u32 0) (.slice none 0 0) (.int .u16 0) (.slice none 0 0) (.slice none 0 0) = WF at hF hG ⊢
    clear k0 k1 k2 k3 k4 k5 k6 k7 k8
    obtain ⟨k0, k1, k2, k3, k4, k5, k6, k7, k8⟩ := blk9 hF
    refine bodyPost_ret (by simp [results, Try.results39, go_sem, k0, k1, k2, k3, k4, k5, k6, k7, k8]; try rfl) rfl ?_
    exact ReadOut.no he.out (by decide) hG
  obtain ⟨f1, f2, f3, f4, f5, f6⟩ := fit_facts hf
  obtain ⟨rfl, rfl, rfl⟩ := hfe hf
  rw [hf]
  have hfh := Lib.hid hf
  clear hfe hf
  go_upto_region 8 with (fail)
  have hR3 : Blk (w2.alloc (.cells #[.int .i64 (hE l : Nat), .int .i64 (pS l : Nat), .int .i64 (pE l : Nat)] 89)) w.heap.size 28 #[.bool false, .int .i64 0, .int .u16 0, .int .u32 0, .int .u32 0, .slice none 0 0, .int .u16 0, .slice none 0 0, .slice none 0 0] := hR2.alloc _
  have b3 := b02.alloc (Nat.le_of_lt hlt2) (.cells #[.int .i64 (hE l : Nat), .int .i64 (pS l : Nat), .int .i64 (pE l : Nat)] 89)
  have hL3 : Blk (w2.alloc (.cells #[.int .i64 (hE l : Nat), .int .i64 (pS l : Nat), .int .i64 (pE l : Nat)] 89)) w2.heap.size 89 #[.int .i64 (hE l : Nat), .int .i64 (pS l : Nat), .int .i64 (pE l : Nat)] := Blk.new _ _ _
  clear hR2 b02
  revert hR3 b3 hL3
  generalize w2.alloc (.cells #[.int .i64 (hE l : Nat), .int .i64 (pS l : Nat), .int .i64 (pE l : Nat)] 89) = W3
  generalize w2.heap.size = L at hlt2 ⊢
  intro hR3 b3 hL3
  have hltL := hL3.lt
  go_wp2_with fail
  refine (rtp_readHead _ n c l _ (h.on b3) (by have := hlh.out; omega) (by omega)).mono ?_
  rintro e w4 ⟨rfl, b4⟩
  unfold headV
  obtain ⟨T, hT⟩ : ∃ T, bt l 1 % 128 = T := ⟨_, rfl⟩
  obtain ⟨M, hM⟩ : ∃ M, decide (bt l 1 / 128 = 1) = M := ⟨_, rfl⟩
  obtain ⟨N2, hN2⟩ : ∃ N2, gn l 2 2 = N2 := ⟨_, rfl⟩
  obtain ⟨N4, hN4⟩ : ∃ N4, gn l 4 4 = N4 := ⟨_, rfl⟩
  obtain ⟨N8, hN8⟩ : ∃ N8, gn l 8 4 = N8 := ⟨_, rfl⟩
  rw [hT, hM, hN2, hN4, hN8]
  have hTh := Lib.hid hT
  have hMh := Lib.hid hM
  have hN2h := Lib.hid hN2
  have hN4h := Lib.hid hN4
  have hN8h := Lib.hid hN8
  clear hT hM hN2 hN4 hN8
  have hR4 := hR3.below b4 (by omega)
  have hL4 := hL3.below b4 hltL
  have b04 := b3.trans (b4.mono b3.size)
  have hlt4 := hL4.lt
  clear hR3 hL3 b3 b4
  go_upto_region 11 with (fail)
  have hR5 := hR4.alloc (.cells #[.bool M, .int .i64 (T : Int), .int .u16 (N2 : Int), .int .u32 (N4 : Int), .int .u32 (N8 : Int), .slice none 0 0, .int .u16 0, .slice none 0 0, .slice none 0 0] 28)
  have hL5 := hL4.alloc (.cells #[.bool M, .int .i64 (T : Int), .int .u16 (N2 : Int), .int .u32 (N4 : Int), .int .u32 (N8 : Int), .slice none 0 0, .int .u16 0, .slice none 0 0, .slice none 0 0] 28)
  have hP5 := Blk.new w4 28 #[.bool M, .int .i64 (T : Int), .int .u16 (N2 : Int), .int .u32 (N4 : Int), .int .u32 (N8 : Int), .slice none 0 0, .int .u16 0, .slice none 0 0, .slice none 0 0]
  have b05 := b04.alloc (by omega) (.cells #[.bool M, .int .i64 (T : Int), .int .u16 (N2 : Int), .int .u32 (N4 : Int), .int .u32 (N8 : Int), .slice none 0 0, .int .u16 0, .slice none 0 0, .slice none 0 0] 28)
  clear hR4 hL4 b04
  revert hR5 hL5 hP5 b05
  generalize w4.alloc (.cells #[.bool M, .int .i64 (T : Int), .int .u16 (N2 : Int), .int .u32 (N4 : Int), .int .u32 (N8 : Int), .slice none 0 0, .int .u16 0, .slice none 0 0, .slice none 0 0] 28) = W5
  generalize w4.heap.size = P at hlt4 ⊢
  intro hR5 hL5 hP5 b05
  have hltP := hP5.lt
  have hltR := hR5.lt
  have r5 := h.on b05
  have hc := h.2.1
  have hE0 : hE l = 12 + 4 * cN l := rfl
  have hcut := fun W => run_cut (P := Try.prog) 26 5 Try.underlying26 u8_size (some ⟨b, off, none⟩) n c .i64 .i64 12 (hE l : Nat) (by omega) (by omega) (by have := hlh.out; omega) W
  have e1 : ((hE l : Nat) : Int).toNat - (12 : Int).toNat = 4 * cN l := by simp; omega
  have hr5 := r5.cut 12 (hE l) (by omega) (by have := hlh.out; omega)
  rw [show hE l - 12 = 4 * cN l by omega] at hr5
  rw [e1, show (12 : Int).toNat = 12 from rfl] at hcut
  have hcn : cN l ≤ 15 := by unfold cN; omega
  have hwords := fun W (hW : Below W5.heap.size W5 W) => rtp_readWords _ (cN l) _ _ W (hr5.on hW) hcn
  have j0 : W5.cell? ⟨L, 0, none⟩ = some (.int .i64 (hE l : Nat)) := hL5.cell 0
  clear e1 hr5
  have hcs := Lib.hid (csrc_cut l (cN l))
  have hE0h := Lib.hid hE0
  clear hE0
  go_wp2_with fail
  refine (hwords _ (Below.refl _ _)).mono ?_
  rintro e w6 ⟨A1, c1, rfl, r1, b6, hfar⟩
  rw [hcs.out] at r1
  have hR6 := hR5.below b6 (by omega)
  have hL6 := hL5.below b6 (by omega)
  have hP6 := hP5.below b6 hltP
  have b06 := b05.trans (b6.mono b05.size)
  have hsz6 := b6.size
  have p5 : w6.cell? ⟨P, 5, none⟩ = some (.slice none 0 0) := hP6.cell 5
  have z5 := hP6.frozen 5
  have hfar := fun ad e => Nat.lt_of_lt_of_le hltR (hfar ad e)
  clear hR5 hL5 hP5 b05 r5 hcut hwords hcs b6 j0 hltR
  go_upto_region 12 with (fail)
  have hP7 : Blk (w6.setCell ⟨P, 5, none⟩ (.slice A1 (cN l) c1)) P 28 #[.bool M, .int .i64 (T : Int), .int .u16 (N2 : Int), .int .u32 (N4 : Int), .int .u32 (N8 : Int), .slice A1 (cN l) c1, .int .u16 0, .slice none 0 0, .slice none 0 0] := hP6.set_ 5 (.slice A1 (cN l) c1)
  have hR7 := hR6.far (p := ⟨P, 5, none⟩) (show w.heap.size ≠ P by omega) (.slice A1 (cN l) c1)
  have hL7 := hL6.far (p := ⟨P, 5, none⟩) (show L ≠ P by omega) (.slice A1 (cN l) c1)
  have b07 := Below.setCell b06 (p := ⟨P, 5, none⟩) (show w.heap.size ≤ P by omega) (.slice A1 (cN l) c1)
  have r1 := r1.setNot p5 (by simp) (.slice A1 (cN l) c1)
  have hsz7 := size_setCell w6 ⟨P, 5, none⟩ (.slice A1 (cN l) c1)
  rw [← hsz7] at r1 hsz6
  clear hR6 hL6 hP6 b06 p5 z5 hsz7
  generalize w6.setCell ⟨P, 5, none⟩ (.slice A1 (cN l) c1) = W7 at hR7 hL7 hP7 b07 r1 hsz6 ⊢
  have c0 : W7.cell? ⟨b, off, none⟩ = some (.int .u8 (bt l 0 : Int)) := (b07.cell (p := ⟨b, off, none⟩) hbl).trans (by
    obtain ⟨b', off', e, _, hc⟩ := h.2.2 (by omega)
    cases e
    have := hc 0 (by omega)
    simpa [bt] using this)
  have j0 : W7.cell? ⟨L, 0, none⟩ = some (.int .i64 (hE l : Nat)) := hL7.cell 0
  have j1 : W7.cell? ⟨L, 1, none⟩ = some (.int .i64 (pS l : Nat)) := hL7.cell 1
  have j2 : W7.cell? ⟨L, 2, none⟩ = some (.int .i64 (pE l : Nat)) := hL7.cell 2
  by_cases hx : isX l = true
  rotate_left
  · have a16 : (bits BinOp.and .u8 (bt l 0 : Int) 16 != 0) = false := by rw [and16 _ hbt]; unfold isX at hx; rw [decide_eq_true_eq] at hx; rw [show bt l 0 / 16 % 2 = 0 by omega]; rfl
    have hxh := Lib.hid (show isX l = false by simpa using hx)
    have hErr := Lib.hid (rerr_ok (l := l) hnn.out hnh.out g3h.out hfh.out (by intro h'; exact absurd h' hx))
    have hpart := rtp_part _ n c l _ (h.on b07) (by omega) (pS l) (pE l) f5 (by have := hlh.out; omega)
    clear hx f1 f2 f3 f4
    go_wp2_with fail
    refine hpart.mono ?_
    rintro e w8 ⟨A3, n3, c3, rfl, r3, b8⟩
    clear hpart a16 j0 j1 j2 c0
    have hR11 := hR7.below b8 (by omega)
    have hP11 := hP7.below b8 (by omega)
    have b11 := b07.trans (b8.mono b07.size)
    have hsz11 := b8.size
    have r1 := r1.on b8
    have p8 : w8.cell? ⟨P, 8, none⟩ = some (.slice none 0 0) := hP11.cell 8
    have z8 := hP11.frozen 8
    clear hR7 hP7 b07 b8
    go_upto_region 18 with (fail)
    have hP12 : Blk (w8.setCell ⟨P, 8, none⟩ (.slice A3 n3 c3)) P 28 #[.bool M, .int .i64 (T : Int), .int .u16 (N2 : Int), .int .u32 (N4 : Int), .int .u32 (N8 : Int), .slice A1 (cN l) c1, .int .u16 0, .slice none 0 0, .slice A3 n3 c3] := hP11.set_ 8 (.slice A3 n3 c3)
    have hR12 := hR11.far (p := ⟨P, 8, none⟩) (show w.heap.size ≠ P by omega) (.slice A3 n3 c3)
    have b12 := Below.setCell b11 (p := ⟨P, 8, none⟩) (show w.heap.size ≤ P by omega) (.slice A3 n3 c3)
    have r1 := r1.setNot p8 (by simp) (.slice A3 n3 c3)
    have r3 := r3.setNot p8 (by simp) (.slice A3 n3 c3)
    have hsz12 := size_setCell w8 ⟨P, 8, none⟩ (.slice A3 n3 c3)
    rw [← hsz12] at r1 r3 hsz11
    clear hR11 hP11 b11 p8 z8 hsz12
    generalize w8.setCell ⟨P, 8, none⟩ (.slice A3 n3 c3) = W12 at hR12 hP12 b12 r1 r3 hsz11 ⊢
    obtain ⟨m0, m1, m2, m3, m4, m5, m6, m7, m8⟩ := blk9 hP12
    obtain ⟨k0, k1, k2, k3, k4, k5, k6, k7, k8⟩ := blk9 hR12
    have z0 := hR12.frozen 0
    have z1 := hR12.frozen 1
    have z2 := hR12.frozen 2
    have z3 := hR12.frozen 3
    have z4 := hR12.frozen 4
    have z5 := hR12.frozen 5
    have z6 := hR12.frozen 6
    have z7 := hR12.frozen 7
    have z8 := hR12.frozen 8
    go_wp2_with fail
    have hF := set9_blk (v0 := .bool M) (v1 := .int .i64 (T : Int)) (v2 := .int .u16 (N2 : Int)) (v3 := .int .u32 (N4 : Int)) (v4 := .int .u32 (N8 : Int)) (v5 := .slice A1 (cN l) c1) (v6 := .int .u16 0) (v7 := .slice none 0 0) (v8 := .slice A3 n3 c3) hR12
    have hG := b12.trans (set9_below (W := W12) (R := w.heap.size) (v0 := .bool M) (v1 := .int .i64 (T : Int)) (v2 := .int .u16 (N2 : Int)) (v3 := .int .u32 (N4 : Int)) (v4 := .int .u32 (N8 : Int)) (v5 := .slice A1 (cN l) c1) (v6 := .int .u16 0) (v7 := .slice none 0 0) (v8 := .slice A3 n3 c3) (Nat.le_refl _))
    change bodyPost _ _ _ _ _ (set9 W12 w.heap.size (.bool M) (.int .i64 (T : Int)) (.int .u16 (N2 : Int)) (.int .u32 (N4 : Int)) (.int .u32 (N8 : Int)) (.slice A1 (cN l) c1) (.int .u16 0) (.slice none 0 0) (.slice A3 n3 c3))
    have hkeep : ∀ p : Addr, p.block ≠ w.heap.size → (set9 W12 w.heap.size (.bool M) (.int .i64 (T : Int)) (.int .u16 (N2 : Int)) (.int .u32 (N4 : Int)) (.int .u32 (N8 : Int)) (.slice A1 (cN l) c1) (.int .u16 0) (.slice none 0 0) (.slice A3 n3 c3)).cell? p = W12.cell? p := fun p hp => World.cell?_of_block (set9_far (W := W12) (R := w.heap.size) p.block hp)
    have q1 := r1.far (fun ad e => by have := hfar ad e; omega) hkeep (set9_size _ _)
    have q2 := (R8.nil W12 W12.heap.size none 0).far hR12 hkeep (set9_size _ _)
    have q3 := r3.far hR12 hkeep (set9_size _ _)
    generalize set9 W12 w.heap.size (.bool M) (.int .i64 (T : Int)) (.int .u16 (N2 : Int)) (.int .u32 (N4 : Int)) (.int .u32 (N8 : Int)) (.slice A1 (cN l) c1) (.int .u16 0) (.slice none 0 0) (.slice A3 n3 c3) = WF at hF hG q1 q2 q3 ⊢
    clear hkeep k0 k1 k2 k3 k4 k5 k6 k7 k8
    obtain ⟨k0, k1, k2, k3, k4, k5, k6, k7, k8⟩ := blk9 hF
    refine bodyPost_ret (by simp [results, Try.results39, go_sem, k0, k1, k2, k3, k4, k5, k6, k7, k8]; try rfl) rfl ?_
    exact ReadOut.yes hErr.out hnn.out hMh.out hTh.out hN2h.out hN4h.out hN8h.out q1 (N6 := 0) (by rw [hxh.out]; rfl) q2 (L2 := []) (by rw [hxh.out]; rfl) q3 rfl hG
  · have a16 : (bits BinOp.and .u8 (bt l 0 : Int) 16 != 0) = true := by rw [and16 _ hbt]; unfold isX at hx; rw [decide_eq_true_eq] at hx; rw [hx]; rfl
    have hxh := Lib.hid hx
    have hx4 := f2 hx
    have hnum := rtp_num _ n c l _ (h.on b07) (by omega) (hE l) 2 (by omega) (by omega) (by have := hlh.out; omega) (hE l : Nat) 2 rfl rfl
    have q6 := gn_lt l (hE l) 2
    obtain ⟨N6, hN6⟩ : ∃ N6, gn l (hE l) 2 = N6 := ⟨_, rfl⟩
    rw [hN6] at hnum q6
    have hN6h := Lib.hid hN6
    have u6 : (N6 : Int) % 65536 = N6 := by omega
    have p6 : W7.cell? ⟨P, 6, none⟩ = some (.int .u16 0) := hP7.cell 6
    have z6 := hP7.frozen 6
    clear hx f1 f2 hN6
    go_wp2_with fail
    refine hnum.mono ?_
    rintro e w' ⟨rfl, hw'⟩
    obtain rfl := hw'.symm
    clear hnum a16
    go_upto_region 14 with (fail)
    have hP8 : Blk (W7.setCell ⟨P, 6, none⟩ (.int .u16 (N6 : Int))) P 28 #[.bool M, .int .i64 (T : Int), .int .u16 (N2 : Int), .int .u32 (N4 : Int), .int .u32 (N8 : Int), .slice A1 (cN l) c1, .int .u16 (N6 : Int), .slice none 0 0, .slice none 0 0] := hP7.set_ 6 (.int .u16 (N6 : Int))
    have hR8 := hR7.far (p := ⟨P, 6, none⟩) (show w.heap.size ≠ P by omega) (.int .u16 (N6 : Int))
    have hL8 := hL7.far (p := ⟨P, 6, none⟩) (show L ≠ P by omega) (.int .u16 (N6 : Int))
    have b08 := Below.setCell b07 (p := ⟨P, 6, none⟩) (show w.heap.size ≤ P by omega) (.int .u16 (N6 : Int))
    have r1 := r1.setNot p6 (by simp) (.int .u16 (N6 : Int))
    have hsz8 := size_setCell W7 ⟨P, 6, none⟩ (.int .u16 (N6 : Int))
    rw [← hsz8] at r1 hsz6
    clear hR7 hL7 hP7 b07 p6 z6 hsz8 j0 j1 j2 c0
    generalize W7.setCell ⟨P, 6, none⟩ (.int .u16 (N6 : Int)) = W8 at hR8 hL8 hP8 b08 r1 hsz6 ⊢
    have p6 : W8.cell? ⟨P, 6, none⟩ = some (.int .u16 (N6 : Int)) := hP8.cell 6
    by_cases h60 : N6 = 0
    · have he := Lib.hid (rerr_prof (l := l) hnn.out hnh.out g3h.out hfh.out hxh.out (hN6h.out.trans h60))
      have g6 : ((N6 : Int) == 0) = true := by simp; omega
      clear h60 h hL8 hP8
      obtain ⟨k0, k1, k2, k3, k4, k5, k6, k7, k8⟩ := blk9 hR8
      have z0 := hR8.frozen 0
      have z1 := hR8.frozen 1
      have z2 := hR8.frozen 2
      have z3 := hR8.frozen 3
      have z4 := hR8.frozen 4
      have z5 := hR8.frozen 5
      have z6 := hR8.frozen 6
      have z7 := hR8.frozen 7
      have z8 := hR8.frozen 8
      go_wp2_with fail
      have hF := set9_blk (v0 := .bool false) (v1 := .int .i64 0) (v2 := .int .u16 0) (v3 := .int .u32 0) (v4 := .int .u32 0) (v5 := .slice none 0 0) (v6 := .int .u16 0) (v7 := .slice none 0 0) (v8 := .slice none 0 0) hR8
      have hG := b08.trans (set9_below (W := W8) (R := w.heap.size) (v0 := .bool false) (v1 := .int .i64 0) (v2 := .int .u16 0) (v3 := .int .u32 0) (v4 := .int .u32 0) (v5 := .slice none 0 0) (v6 := .int .u16 0) (v7 := .slice none 0 0) (v8 := .slice none 0 0) (Nat.le_refl _))
      change bodyPost _ _ _ _ _ (set9 W8 w.heap.size (.bool false) (.int .i64 0) (.int .u16 0) (.int .u32 0) (.int .u32 0) (.slice none 0 0) (.int .u16 0) (.slice none 0 0) (.slice none 0 0))
      generalize set9 W8 w.heap.size (.bool false) (.int .i64 0) (.int .u16 0) (.int .u32 0) (.int .u32 0) (.slice none 0 0) (.int .u16 0) (.slice none 0 0) (.slice none 0 0) = WF at hF hG ⊢
      clear k0 k1 k2 k3 k4 k5 k6 k7 k8
      obtain ⟨k0, k1, k2, k3, k4, k5, k6, k7, k8⟩ := blk9 hF
      refine bodyPost_ret (by simp [results, Try.results39, go_sem, k0, k1, k2, k3, k4, k5, k6, k7, k8]; try rfl) rfl ?_
      exact ReadOut.no he.out (by decide) hG
    have g6 : ((N6 : Int) == 0) = false := by simp; omega
    have hErr := Lib.hid (rerr_ok (l := l) hnn.out hnh.out g3h.out hfh.out (by intro _; rw [hN6h.out]; exact h60))
    have hpS := Lib.hid (show pS l = hE l + 4 + 4 * wN l by unfold pS; rw [hxh.out]; rfl)
    have hpart := rtp_part _ n c l _ (h.on b08) (by omega) (hE l + 4) (pS l) (by have := hpS.out; omega) (by have := hlh.out; omega)
    rw [show pS l - (hE l + 4) = 4 * wN l by have := hpS.out; omega] at hpart
    rw [show ((hE l + 4 : Nat) : Int) = (hE l : Nat) + 4 by omega] at hpart
    have hE9 : hE l ≤ 1500 := by have := hlh.out; omega
    have j0 : W8.cell? ⟨L, 0, none⟩ = some (.int .i64 (hE l : Nat)) := hL8.cell 0
    have j1 : W8.cell? ⟨L, 1, none⟩ = some (.int .i64 (pS l : Nat)) := hL8.cell 1
    clear h60
    go_wp2_with fail
    refine hpart.mono ?_
    rintro e w9 ⟨A2, n2, c2, rfl, r2, b9⟩
    have hR9 := hR8.below b9 (by omega)
    have hL9 := hL8.below b9 (by omega)
    have hP9 := hP8.below b9 (by omega)
    have b09 := b08.trans (b9.mono b08.size)
    have hsz9 := b9.size
    have r1 := r1.on b9
    have p7 : w9.cell? ⟨P, 7, none⟩ = some (.slice none 0 0) := hP9.cell 7
    have z7 := hP9.frozen 7
    clear hR8 hL8 hP8 b08 hpart b9 j0 j1 p6 g6
    go_upto_region 17 with (fail)
    have hP10 : Blk (w9.setCell ⟨P, 7, none⟩ (.slice A2 n2 c2)) P 28 #[.bool M, .int .i64 (T : Int), .int .u16 (N2 : Int), .int .u32 (N4 : Int), .int .u32 (N8 : Int), .slice A1 (cN l) c1, .int .u16 (N6 : Int), .slice A2 n2 c2, .slice none 0 0] := hP9.set_ 7 (.slice A2 n2 c2)
    have hR10 := hR9.far (p := ⟨P, 7, none⟩) (show w.heap.size ≠ P by omega) (.slice A2 n2 c2)
    have hL10 := hL9.far (p := ⟨P, 7, none⟩) (show L ≠ P by omega) (.slice A2 n2 c2)
    have b10 := Below.setCell b09 (p := ⟨P, 7, none⟩) (show w.heap.size ≤ P by omega) (.slice A2 n2 c2)
    have r1 := r1.setNot p7 (by simp) (.slice A2 n2 c2)
    have r2 := r2.setNot p7 (by simp) (.slice A2 n2 c2)
    have hsz10 := size_setCell w9 ⟨P, 7, none⟩ (.slice A2 n2 c2)
    rw [← hsz10] at r1 r2 hsz9
    clear hR9 hL9 hP9 b09 p7 z7 hsz10
    generalize w9.setCell ⟨P, 7, none⟩ (.slice A2 n2 c2) = W10 at hR10 hL10 hP10 b10 r1 r2 hsz9 ⊢
    have j1 : W10.cell? ⟨L, 1, none⟩ = some (.int .i64 (pS l : Nat)) := hL10.cell 1
    have j2 : W10.cell? ⟨L, 2, none⟩ = some (.int .i64 (pE l : Nat)) := hL10.cell 2
    have hpart := rtp_part _ n c l _ (h.on b10) (by omega) (pS l) (pE l) f5 (by have := hlh.out; omega)
    go_wp2_with fail
    refine hpart.mono ?_
    rintro e w8 ⟨A3, n3, c3, rfl, r3, b8⟩
    clear hpart j1 j2
    have hR11 := hR10.below b8 (by omega)
    have hP11 := hP10.below b8 (by omega)
    have b11 := b10.trans (b8.mono b10.size)
    have hsz11 := b8.size
    have r1 := r1.on b8
    have r2 := r2.on b8
    have p8 : w8.cell? ⟨P, 8, none⟩ = some (.slice none 0 0) := hP11.cell 8
    have z8 := hP11.frozen 8
    clear hR10 hP10 b10 b8
    go_upto_region 18 with (fail)
    have hP12 : Blk (w8.setCell ⟨P, 8, none⟩ (.slice A3 n3 c3)) P 28 #[.bool M, .int .i64 (T : Int), .int .u16 (N2 : Int), .int .u32 (N4 : Int), .int .u32 (N8 : Int), .slice A1 (cN l) c1, .int .u16 (N6 : Int), .slice A2 n2 c2, .slice A3 n3 c3] := hP11.set_ 8 (.slice A3 n3 c3)
    have hR12 := hR11.far (p := ⟨P, 8, none⟩) (show w.heap.size ≠ P by omega) (.slice A3 n3 c3)
    have b12 := Below.setCell b11 (p := ⟨P, 8, none⟩) (show w.heap.size ≤ P by omega) (.slice A3 n3 c3)
    have r1 := r1.setNot p8 (by simp) (.slice A3 n3 c3)
    have r2 := r2.setNot p8 (by simp) (.slice A3 n3 c3)
    have r3 := r3.setNot p8 (by simp) (.slice A3 n3 c3)
    have hsz12 := size_setCell w8 ⟨P, 8, none⟩ (.slice A3 n3 c3)
    rw [← hsz12] at r1 r3 r2 hsz11
    clear hR11 hP11 b11 p8 z8 hsz12
    generalize w8.setCell ⟨P, 8, none⟩ (.slice A3 n3 c3) = W12 at hR12 hP12 b12 r1 r2 r3 hsz11 ⊢
    obtain ⟨m0, m1, m2, m3, m4, m5, m6, m7, m8⟩ := blk9 hP12
    obtain ⟨k0, k1, k2, k3, k4, k5, k6, k7, k8⟩ := blk9 hR12
    have z0 := hR12.frozen 0
    have z1 := hR12.frozen 1
    have z2 := hR12.frozen 2
    have z3 := hR12.frozen 3
    have z4 := hR12.frozen 4
    have z5 := hR12.frozen 5
    have z6 := hR12.frozen 6
    have z7 := hR12.frozen 7
    have z8 := hR12.frozen 8
    go_wp2_with fail
    have hF := set9_blk (v0 := .bool M) (v1 := .int .i64 (T : Int)) (v2 := .int .u16 (N2 : Int)) (v3 := .int .u32 (N4 : Int)) (v4 := .int .u32 (N8 : Int)) (v5 := .slice A1 (cN l) c1) (v6 := .int .u16 (N6 : Int)) (v7 := .slice A2 n2 c2) (v8 := .slice A3 n3 c3) hR12
    have hG := b12.trans (set9_below (W := W12) (R := w.heap.size) (v0 := .bool M) (v1 := .int .i64 (T : Int)) (v2 := .int .u16 (N2 : Int)) (v3 := .int .u32 (N4 : Int)) (v4 := .int .u32 (N8 : Int)) (v5 := .slice A1 (cN l) c1) (v6 := .int .u16 (N6 : Int)) (v7 := .slice A2 n2 c2) (v8 := .slice A3 n3 c3) (Nat.le_refl _))
    change bodyPost _ _ _ _ _ (set9 W12 w.heap.size (.bool M) (.int .i64 (T : Int)) (.int .u16 (N2 : Int)) (.int .u32 (N4 : Int)) (.int .u32 (N8 : Int)) (.slice A1 (cN l) c1) (.int .u16 (N6 : Int)) (.slice A2 n2 c2) (.slice A3 n3 c3))
    have hkeep : ∀ p : Addr, p.block ≠ w.heap.size → (set9 W12 w.heap.size (.bool M) (.int .i64 (T : Int)) (.int .u16 (N2 : Int)) (.int .u32 (N4 : Int)) (.int .u32 (N8 : Int)) (.slice A1 (cN l) c1) (.int .u16 (N6 : Int)) (.slice A2 n2 c2) (.slice A3 n3 c3)).cell? p = W12.cell? p := fun p hp => World.cell?_of_block (set9_far (W := W12) (R := w.heap.size) p.block hp)
    have q1 := r1.far (fun ad e => by have := hfar ad e; omega) hkeep (set9_size _ _)
    have q2 := r2.far hR12 hkeep (set9_size _ _)
    have q3 := r3.far hR12 hkeep (set9_size _ _)
    generalize set9 W12 w.heap.size (.bool M) (.int .i64 (T : Int)) (.int .u16 (N2 : Int)) (.int .u32 (N4 : Int)) (.int .u32 (N8 : Int)) (.slice A1 (cN l) c1) (.int .u16 (N6 : Int)) (.slice A2 n2 c2) (.slice A3 n3 c3) = WF at hF hG q1 q2 q3 ⊢
    clear hkeep k0 k1 k2 k3 k4 k5 k6 k7 k8
    obtain ⟨k0, k1, k2, k3, k4, k5, k6, k7, k8⟩ := blk9 hF
    refine bodyPost_ret (by simp [results, Try.results39, go_sem, k0, k1, k2, k3, k4, k5, k6, k7, k8]; try rfl) rfl ?_
    exact ReadOut.yes hErr.out hnn.out hMh.out hTh.out hN2h.out hN4h.out hN8h.out q1 (by rw [hxh.out]; simpa using hN6h.out) q2 (by rw [hxh.out]; rfl) q3 rfl hG
end Go.Proofs.Ytpcdmcaojgpfoaa
