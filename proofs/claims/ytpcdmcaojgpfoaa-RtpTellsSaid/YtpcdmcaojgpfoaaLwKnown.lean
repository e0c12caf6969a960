/- Contract: limelightlaw3.known. -/
import Derived.Test.YtpcdmcaojgpfoaaCRRead
import Derived.Test.YtpcdmcaojgpfoaaCRBytes
import Derived.Test.YtpcdmcaojgpfoaaCRSame
import Derived.Test.YtpcdmcaojgpfoaaAppZ
import Derived.Test.YtpcdmcaojgpfoaaReg
import Derived.Lib.SmallJoins
namespace Go.Proofs.Ytpcdmcaojgpfoaa
open Go.RowKit
set_option linter.unusedVariables false
set_option linter.unusedSimpArgs false
set_option maxRecDepth 20000

def kp : Pkt := ⟨true, 96, 7, 9, 5, [], 0, [], [120, 121]⟩
theorem kp_right : kp.right = 0 := by decide
theorem kp_bytes : kp.bytes = [128, 224, 0, 7, 0, 0, 0, 9, 0, 0, 0, 5, 120, 121] := by decide
theorem kp_in : kp.In := ⟨by simp [kp, I64], by simp [kp], by simp [kp], by simp [kp], by simp [kp], by simp [kp], by simp [kp], by simp [kp]⟩
def k40 : List UInt8 := 64 :: List.replicate 11 0
def kA0 : List UInt8 := 160 :: List.replicate 12 0
theorem k40_err : rdErr k40 = 12 := rerr_version (by decide) (by decide) (by decide)
theorem kA0_err : rdErr kA0 = 13 := rerr_fit (by decide) (by decide) (by decide) (fit_pad (by decide) (by decide))
theorem rtp_read_no (A : Option Addr) (n c : Nat) (l : List UInt8) (w : World) (h : R8 w w.heap.size A n c l) (hn : n ≤ 140737488355328) (k : Int) (hk : rdErr l = k) (hk0 : k ≠ 0) :
    Calls Try.prog 39 #[.slice A n c] w fun e w' => ∃ A1 c1 A2 c2 A3 c3, e = .returned (.tuple #[.agg #[.bool false, .int .i64 0, .int .u16 0, .int .u32 0, .int .u32 0, .slice A1 0 c1, .int .u16 0, .slice A2 0 c2, .slice A3 0 c3], .int .i64 k]) ∧ Below w.heap.size w w' := by
  refine (rtp_read A n c l w h hn).mono ?_
  rintro e w' ⟨A1, c1, A2, c2, A3, c3, rfl, _, hb⟩
  have e1 : rdP l = Pkt.zero := by unfold rdP; rw [if_neg (by omega)]
  exact ⟨A1, c1, A2, c2, A3, c3, by rw [e1, hk]; rfl, hb⟩
theorem rtp_read_bytes (A : Option Addr) (n c : Nat) (p : Pkt) (w : World) (h : R8 w w.heap.size A n c p.bytes) (hn : n ≤ 140737488355328) (hk : p.In) (hr : p.right = 0) (hc : ∀ x ∈ p.csrc, x < 4294967296) :
    Calls Try.prog 39 #[.slice A n c] w fun e w' => ∃ A1 c1 A2 c2 A3 c3, e = .returned (.tuple #[p.val A1 c1 A2 c2 A3 c3, .int .i64 0]) ∧ IsP w' w'.heap.size A1 c1 A2 c2 A3 c3 p ∧ Below w.heap.size w w' := by
  refine (rtp_read A n c p.bytes w h hn).mono ?_
  rintro e w' ⟨A1, c1, A2, c2, A3, c3, rfl, hp, hb⟩
  obtain ⟨e1, e2⟩ := rd_bytes p hk hr hc
  rw [e2] at hp
  exact ⟨A1, c1, A2, c2, A3, c3, by rw [e1, e2], hp, hb⟩
theorem own8_lit (w : World) (base : Nat) (l : List UInt8) (cs : Array Value) (n : Nat) (hn : l.length = n) (h : (l.map bv).toArray = cs) (hb : base ≤ w.heap.size) (hn9 : n ≤ 1000) : Own8 (w.alloc (.cells cs 5)) base (.slice (some ⟨w.heap.size, 0, none⟩) n n) l := by
  subst h; subst hn
  exact ⟨by simp, .inr ⟨w.heap.size, l.length, _, rfl, hb, heap_alloc_new w _, Nat.le_refl _, by unfold maxLen; omega, by simp, by simp [List.take_of_length_le]⟩⟩
set_option maxRecDepth 100000 in
set_option maxRecDepth 100000 in
set_option maxRecDepth 100000 in
set_option maxRecDepth 100000 in
set_option maxHeartbeats 2000000 in
theorem known_yes (w : World) : Calls Try.prog 17 #[] w (Yes w) := by
  have kc := Go.Joins.run_convert_bytes_const_at (P := Try.prog) w 26 5 #[.int .u8 120, .int .u8 121] 2 2 w.heap.size rfl Try.underlying26 Try.underlying5
  go_enter Try.func17, Try.ntmps17
  go_upto_region 2 with (fail)
  clear kc
  have r0 := lit_r8 [120, 121] #[.int .u8 120, .int .u8 121] 2 (2, 3) rfl rfl w
  have bX : Below w.heap.size w (w.alloc (.cells #[.int .u8 120, .int .u8 121] 5 (2, 3))) := (Below.refl _ w).alloc (Nat.le_refl _) _
  have sX : (w.alloc (.cells #[.int .u8 120, .int .u8 121] 5 (2, 3))).heap.size = w.heap.size + 1 := by simp
  generalize w.alloc (.cells #[.int .u8 120, .int .u8 121] 5 (2, 3)) = X at r0 bX sX ⊢
  have hP := Blk.new X 28 #[.bool true, .int .i64 96, .int .u16 7, .int .u32 9, .int .u32 5, .slice none 0 0, .int .u16 0, .slice none 0 0, .slice (some ⟨w.heap.size, 0, none⟩) 2 2]
  have bz := (Below.refl _ X).alloc (Nat.le_refl _) (.cells #[.bool true, .int .i64 96, .int .u16 7, .int .u32 9, .int .u32 5, .slice none 0 0, .int .u16 0, .slice none 0 0, .slice (some ⟨w.heap.size, 0, none⟩) 2 2] 28)
  have b1 := bX.trans (bz.mono bX.size)
  have r1 := r0.on bz
  rw [sX] at hP
  clear bz bX r0 sX
  generalize X.alloc (.cells #[.bool true, .int .i64 96, .int .u16 7, .int .u32 9, .int .u32 5, .slice none 0 0, .int .u16 0, .slice none 0 0, .slice (some ⟨w.heap.size, 0, none⟩) 2 2] 28) = W1 at hP b1 r1 ⊢
  have hI : IsP W1 W1.heap.size none 0 none 0 (some ⟨w.heap.size, 0, none⟩) 2 kp := ⟨R32.nil _ _ _ _, R8.nil _ _ _ _, r1, kp_in⟩
  obtain ⟨k0, k1, k2, k3, k4, k5, k6, k7, k8⟩ := blk9 hP
  go_wp2_with fail
  clear k0 k1 k2 k3 k4 k5 k6 k7 k8
  refine (show Calls _ _ #[.agg #[.bool true, .int .i64 96, .int .u16 7, .int .u32 9, .int .u32 5, .slice none 0 0, .int .u16 0, .slice none 0 0, .slice (some ⟨w.heap.size, 0, none⟩) 2 2]] _ _ from rtp_bytes kp none 0 none 0 (some ⟨w.heap.size, 0, none⟩) 2 W1 hI).mono ?_
  rintro e w2 ⟨hy, _⟩
  obtain ⟨v2, rfl, ho2, bz⟩ := hy kp_right
  obtain ⟨A2, c2, rfl, r2⟩ := ho2.r8
  have e14 : kp.bytes.length = 14 := by rw [kp_bytes]; rfl
  rw [e14] at r2 ⊢
  have b2 := b1.trans (bz.mono b1.size)
  have hP := hP.below bz hP.lt
  have r1 := r1.on bz
  clear hy bz ho2 e14 hI b1
  go_wp2_with fail
  refine (rtp_read_bytes A2 14 c2 kp _ r2 (by omega) kp_in kp_right (by simp [kp])).mono ?_
  rintro e w3 ⟨B1, d1, B2, d2, B3, d3, rfl, hI3, bz⟩
  rw [show kp.val B1 d1 B2 d2 B3 d3 = .agg #[.bool true, .int .i64 96, .int .u16 7, .int .u32 9, .int .u32 5, .slice B1 0 d1, .int .u16 0, .slice B2 0 d2, .slice B3 2 d3] from rfl]
  have b3 := b2.trans (bz.mono b2.size)
  have r1 := r1.on bz
  have r2 := r2.on bz
  have hP := hP.below bz hP.lt
  clear bz b2
  go_upto_region 4 with (fail)
  have b3a := b3.alloc b3.size (.cells #[.bool true, .int .i64 96, .int .u16 7, .int .u32 9, .int .u32 5, .slice B1 0 d1, .int .u16 0, .slice B2 0 d2, .slice B3 2 d3] 28)
  have bz := (Below.refl _ w3).alloc (Nat.le_refl _) (.cells #[.bool true, .int .i64 96, .int .u16 7, .int .u32 9, .int .u32 5, .slice B1 0 d1, .int .u16 0, .slice B2 0 d2, .slice B3 2 d3] 28)
  have hQ := Blk.new w3 28 #[.bool true, .int .i64 96, .int .u16 7, .int .u32 9, .int .u32 5, .slice B1 0 d1, .int .u16 0, .slice B2 0 d2, .slice B3 2 d3]
  have r1 := r1.on bz
  have r2 := r2.on bz
  have hI3 := hI3.on bz
  have hP := hP.below bz hP.lt
  clear b3 bz
  generalize w3.alloc (.cells #[.bool true, .int .i64 96, .int .u16 7, .int .u32 9, .int .u32 5, .slice B1 0 d1, .int .u16 0, .slice B2 0 d2, .slice B3 2 d3] 28) = V3 at b3a r1 r2 hI3 hP hQ ⊢
  generalize w3.heap.size = Q at hQ ⊢
  have q1 : IsP V3 V3.heap.size none 0 none 0 (some ⟨w.heap.size, 0, none⟩) 2 kp := ⟨R32.nil _ _ _ _, R8.nil _ _ _ _, r1, kp_in⟩
  clear r1
  go_wp2_with fail
  refine (rtp_read_no none 0 0 [] _ (R8.nil _ _ _ _) (by omega) 13 (rerr_none rfl) (by decide)).mono ?_
  rintro e w4 ⟨C14, e14, C24, e24, C34, e34, rfl, bz⟩
  have b4 := b3a.trans (bz.mono b3a.size)
  have r2 := r2.on bz
  have hP := hP.below bz hP.lt
  have hQ := hQ.below bz hQ.lt
  have q0 := bz
  clear bz
  go_upto_region 5 with (fail)
  have b4a := b4.alloc b4.size (.cells #[.bool false, .int .i64 0, .int .u16 0, .int .u32 0, .int .u32 0, .slice C14 0 e14, .int .u16 0, .slice C24 0 e24, .slice C34 0 e34] 28)
  have bz := (Below.refl _ w4).alloc (Nat.le_refl _) (.cells #[.bool false, .int .i64 0, .int .u16 0, .int .u32 0, .int .u32 0, .slice C14 0 e14, .int .u16 0, .slice C24 0 e24, .slice C34 0 e34] 28)
  have r2 := r2.on bz
  have hP := hP.below bz hP.lt
  have hQ := hQ.below bz hQ.lt
  have bz0 := q0.trans (bz.mono q0.size)
  clear b4 bz b3a q0
  generalize w4.alloc (.cells #[.bool false, .int .i64 0, .int .u16 0, .int .u32 0, .int .u32 0, .slice C14 0 e14, .int .u16 0, .slice C24 0 e24, .slice C34 0 e34] 28) = V4 at b4a bz0 r2 hP hQ ⊢
  have hl4 := own8_lit V4 V4.heap.size [64] #[.int .u8 64] 1 rfl rfl (Nat.le_refl _) (by omega)
  go_wp2_with (at_builtin; (go_loud (with_reducible refine wpList_append_zeros8 rfl (.tmp 30) (.const (.int .i64 11)) rfl V4.heap.size (.slice (some ⟨V4.heap.size, 0, none⟩) 1 1) [64] (by with_unfolding_all rfl) hl4 11 (by with_unfolding_all rfl) (by omega) (by decide) (by simp) ?_); intro v5 w5 ha5))
  have bz := ha5.below ((Below.refl _ V4).alloc (Nat.le_refl _) _) (by simp) hl4 (Nat.le_refl _)
  obtain ⟨A5, c5, rfl, r5⟩ := ha5.1.r8
  clear ha5 hl4
  refine (rtp_read_no A5 12 c5 k40 _ r5 (by omega) 12 k40_err (by decide)).mono ?_
  have b4b := b4a.trans (bz.mono b4a.size)
  have r2 := r2.on bz
  have hP := hP.below bz hP.lt
  have hQ := hQ.below bz hQ.lt
  have qz := bz0.trans (bz.mono bz0.size)
  clear bz b4a bz0 r5
  rintro e w5r ⟨C15, e15, C25, e25, C35, e35, rfl, bz⟩
  have b5 := b4b.trans (bz.mono b4b.size)
  have r2 := r2.on bz
  have hP := hP.below bz hP.lt
  have hQ := hQ.below bz hQ.lt
  have q0 := qz.trans (bz.mono qz.size)
  clear bz qz
  go_upto_region 6 with (fail)
  have b5a := b5.alloc b5.size (.cells #[.bool false, .int .i64 0, .int .u16 0, .int .u32 0, .int .u32 0, .slice C15 0 e15, .int .u16 0, .slice C25 0 e25, .slice C35 0 e35] 28)
  have bz := (Below.refl _ w5r).alloc (Nat.le_refl _) (.cells #[.bool false, .int .i64 0, .int .u16 0, .int .u32 0, .int .u32 0, .slice C15 0 e15, .int .u16 0, .slice C25 0 e25, .slice C35 0 e35] 28)
  have r2 := r2.on bz
  have hP := hP.below bz hP.lt
  have hQ := hQ.below bz hQ.lt
  have qz5 := q0.trans (bz.mono q0.size)
  clear b5 bz b4b q0
  generalize w5r.alloc (.cells #[.bool false, .int .i64 0, .int .u16 0, .int .u32 0, .int .u32 0, .slice C15 0 e15, .int .u16 0, .slice C25 0 e25, .slice C35 0 e35] 28) = V5 at b5a qz5 r2 hP hQ ⊢
  have hl5 := own8_lit V5 V5.heap.size [160] #[.int .u8 160] 1 rfl rfl (Nat.le_refl _) (by omega)
  go_wp2_with (at_builtin; (go_loud (with_reducible refine wpList_append_zeros8 rfl (.tmp 36) (.const (.int .i64 12)) rfl V5.heap.size (.slice (some ⟨V5.heap.size, 0, none⟩) 1 1) [160] (by with_unfolding_all rfl) hl5 12 (by with_unfolding_all rfl) (by omega) (by decide) (by simp) ?_); intro v6 w6 ha6))
  have bz := ha6.below ((Below.refl _ V5).alloc (Nat.le_refl _) _) (by simp) hl5 (Nat.le_refl _)
  obtain ⟨A6, c6, rfl, r6⟩ := ha6.1.r8
  clear ha6 hl5
  refine (rtp_read_no A6 13 c6 kA0 _ r6 (by omega) 13 kA0_err (by decide)).mono ?_
  have b5b := b5a.trans (bz.mono b5a.size)
  have r2 := r2.on bz
  have hP := hP.below bz hP.lt
  have hQ := hQ.below bz hQ.lt
  have qz := qz5.trans (bz.mono qz5.size)
  clear bz b5a qz5 r6
  rintro e w6r ⟨C16, e16, C26, e26, C36, e36, rfl, bz⟩
  have b6 := b5b.trans (bz.mono b5b.size)
  have r2 := r2.on bz
  have hP := hP.below bz hP.lt
  have hQ := hQ.below bz hQ.lt
  have q0 := qz.trans (bz.mono qz.size)
  clear bz qz
  go_upto_region 7 with (fail)
  have b6a := b6.alloc b6.size (.cells #[.bool false, .int .i64 0, .int .u16 0, .int .u32 0, .int .u32 0, .slice C16 0 e16, .int .u16 0, .slice C26 0 e26, .slice C36 0 e36] 28)
  have bz := (Below.refl _ w6r).alloc (Nat.le_refl _) (.cells #[.bool false, .int .i64 0, .int .u16 0, .int .u32 0, .int .u32 0, .slice C16 0 e16, .int .u16 0, .slice C26 0 e26, .slice C36 0 e36] 28)
  have r2 := r2.on bz
  have hP := hP.below bz hP.lt
  have hQ := hQ.below bz hQ.lt
  have qz6 := q0.trans (bz.mono q0.size)
  clear b6 bz b5b q0
  generalize w6r.alloc (.cells #[.bool false, .int .i64 0, .int .u16 0, .int .u32 0, .int .u32 0, .slice C16 0 e16, .int .u16 0, .slice C26 0 e26, .slice C36 0 e36] 28) = V6 at b6a qz6 r2 hP hQ ⊢
  obtain ⟨b, off, rfl, hbl, hc⟩ := r2.2.2 (by omega)
  have c0 : V6.cell? ⟨b, off, none⟩ = some (.int .u8 128) := by have := hc 0 (by omega); simpa [kp_bytes] using this
  have c1 : V6.cell? ⟨b, off + 1, none⟩ = some (.int .u8 224) := by have := hc 1 (by omega); simpa [kp_bytes] using this
  have q1 := q1.on qz6
  have hI3 := hI3.on qz6
  clear r2 hc qz6
  obtain ⟨k0, k1, k2, k3, k4, k5, k6, k7, k8⟩ := blk9 hP
  obtain ⟨j0, j1, j2, j3, j4, j5, j6, j7, j8⟩ := blk9 hQ
  go_wp2_with fail
  clear k0 k1 k2 k3 k4 k5 k6 k7 k8 j0 j1 j2 j3 j4 j5 j6 j7 j8 c0 c1
  refine (show Calls _ _ #[.agg #[.bool true, .int .i64 96, .int .u16 7, .int .u32 9, .int .u32 5, .slice none 0 0, .int .u16 0, .slice none 0 0, .slice (some ⟨w.heap.size, 0, none⟩) 2 2], .agg #[.bool true, .int .i64 96, .int .u16 7, .int .u32 9, .int .u32 5, .slice B1 0 d1, .int .u16 0, .slice B2 0 d2, .slice B3 2 d3]] _ _ from rtp_same kp kp none 0 none 0 (some ⟨w.heap.size, 0, none⟩) 2 B1 d1 B2 d2 B3 d3 V6 q1 hI3).mono ?_
  rw [show samePk kp kp = true by decide]
  rintro e w7 ⟨rfl, bz⟩
  have b7 := b6a.trans (bz.mono b6a.size)
  have hP := hP.below bz hP.lt
  clear bz b6a q1 hI3 hQ
  obtain ⟨k0, k1, k2, k3, k4, k5, k6, k7, k8⟩ := blk9 hP
  go_wp2_with fail
  refine (show Calls _ _ #[.agg #[.bool true, .int .i64 96, .int .u16 7, .int .u32 9, .int .u32 5, .slice none 0 0, .int .u16 0, .slice none 0 0, .slice (some ⟨w.heap.size, 0, none⟩) 2 2]] _ _ from rtp_size kp none 0 none 0 (some ⟨w.heap.size, 0, none⟩) 2 w7 kp_in).mono ?_
  rw [if_pos kp_right, show kp.size = 14 by decide]
  rintro e w8 ⟨rfl, bz⟩
  have b8 := b7.trans (bz.mono b7.size)
  clear k0 k1 k2 k3 k4 k5 k6 k7 k8 bz b7 hP
  go_wp2_with fail
  refine (show Calls _ _ #[.agg #[.bool false, .int .i64 128, .int .u16 0, .int .u32 0, .int .u32 0, .slice none 0 0, .int .u16 0, .slice none 0 0, .slice none 0 0]] _ _ from rtp_right ⟨false, 128, 0, 0, 0, [], 0, [], []⟩ none 0 none 0 none 0 w8 ⟨by simp [I64], by simp, by simp, by simp, by simp, by simp, by simp, by simp⟩).mono ?_
  rw [show Pkt.right ⟨false, 128, 0, 0, 0, [], 0, [], []⟩ = 1 by decide]
  rintro e w9 ⟨rfl, bz⟩
  have b9 := b8.trans (bz.mono b8.size)
  clear bz b8
  go_wp2_with fail
  refine (show Calls _ _ #[.agg #[.bool false, .int .i64 (-1), .int .u16 0, .int .u32 0, .int .u32 0, .slice none 0 0, .int .u16 0, .slice none 0 0, .slice none 0 0]] _ _ from rtp_size ⟨false, -1, 0, 0, 0, [], 0, [], []⟩ none 0 none 0 none 0 w9 ⟨by simp [I64], by simp, by simp, by simp, by simp, by simp, by simp, by simp⟩).mono ?_
  rw [if_neg (by decide)]
  rintro e w10 ⟨rfl, bz⟩
  have b10 := b9.trans (bz.mono b9.size)
  clear bz b9
  go_wp2_with fail
  go_ret
  exact ⟨rfl, b10⟩
end Go.Proofs.Ytpcdmcaojgpfoaa
