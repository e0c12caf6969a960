/- Pure: chapter 6's runs. Contract: limelightlaw6.known. -/
import Derived.Test.YtnchgmemajmkjaaPcR
import Derived.Test.YtnchgmemajmkjaaMi
import Derived.Test.YtnchgmemajmkjaaPcC
import Derived.Test.YtnchgmemajmkjaaPcA
import Derived.Test.YtnchgmemajmkjaaPcF
import Derived.Lib.SmallJoins
import Derived.StillTailTactics
namespace Go.Proofs.Ytnchgmemajmkjaa.RP
open Go.RowKit
set_option linter.unusedVariables false
set_option linter.unusedSimpArgs false
set_option maxRecDepth 20000

def kA : Rep := ⟨3, 1, 2, [], [], [], 0, 0, 0, []⟩
def kB : Rep := ⟨5, 0, 0, [], [5], [], 8000, 0, 0, []⟩
def kZ : Rep := ⟨0, 0, 0, [], [], [], 0, 0, 0, []⟩
def kBytes : List UInt8 := [129, 206, 0, 2, 0, 0, 0, 1, 0, 0, 0, 2, 143, 206, 0, 5, 0, 0, 0, 0, 0, 0, 0, 0, 82, 69, 77, 66, 1, 0, 31, 64, 0, 0, 0, 5]
theorem k6_err : repsErr [kA, kB] = 0 := by kernel_rfl
theorem k6_bytes : onesB [kA, kB] = kBytes := by kernel_rfl
theorem k6_read : rdReps kBytes = (0, [kA, kB]) := by kernel_rfl
theorem k6_nil : rdReps [] = (13, []) := by kernel_rfl
theorem k6_form : rdReps [161, 206, 0, 0] = (12, []) := by kernel_rfl
theorem k6_is : isB kBytes = true ∧ isB [] = false ∧ isB [128, 96] = false := by decide
theorem k6_zero : kZ.err = 12 := by kernel_rfl
end Go.Proofs.Ytnchgmemajmkjaa.RP
namespace Go.Proofs.Ytnchgmemajmkjaa.RP
open Go.RowKit
set_option linter.unusedVariables false
set_option linter.unusedSimpArgs false
set_option maxRecDepth 20000

theorem rr_block {w : World} {g : Nat} {L : List Rv} {cs : Array Value} {n : Nat} (h : Blk w g 33 cs) (hc : cs = (cellsR L).toArray) (hn : L.length = n) (hL : ∀ x ∈ L, IsR w w.heap.size x) : RR w w.heap.size (some ⟨g, 0, none⟩) n n L := by
  subst hc
  refine ⟨hn, hL, by rw [cellsR_len, hn], Nat.le_refl _, fun _ => ⟨g, 0, rfl, h.lt, fun j v hj => ?_⟩⟩
  rw [Nat.zero_add, h.cell j]
  simpa using hj
theorem isR_bare (w : World) (B : Nat) (r : Rep) (hk : r.In) (h1 : r.tups = []) (h2 : r.abouts = []) (h3 : r.nums = []) (h4 : r.body = []) : IsR w B ⟨r, none, 0, none, 0, none, 0, none, 0⟩ := by
  obtain ⟨k, s, a, t, ab, nu, ra, ty, co, bo⟩ := r
  simp only at h1 h2 h3 h4
  subst h1 h2 h3 h4
  exact ⟨RT.nil _ _ _ _, R32.nil _ _ _ _, RN.nil _ _ _ _, R8.nil _ _ _ _, hk⟩
theorem kA_in : kA.In := ⟨by unfold I64; decide, by decide, by decide, by decide, by unfold I64; decide, by unfold I64; decide, by decide, by decide, by decide, by decide⟩
theorem kB_in : kB.In := ⟨by unfold I64; decide, by decide, by decide, by decide, by unfold I64; decide, by unfold I64; decide, by decide, by decide, by decide, by decide⟩
theorem kZ_in : kZ.In := ⟨by unfold I64; decide, by decide, by decide, by decide, by unfold I64; decide, by unfold I64; decide, by decide, by decide, by decide, by decide⟩
theorem run_cut_hi (w : World) (A : Option Addr) (n c k : Nat) (hk : k ≤ c) :
    (Instr.slice 31 (.slice A n c) none (some (.int .i64 (k : Int))) none).run Try.prog w = .ok (.slice A k c) w := by
  have e : (if c = 0 then A else A.map (·.add 0)) = A := by
    split
    · rfl
    · cases A with
      | none => rfl
      | some a => simp [Addr.add]
  have hs : (Try.prog.elem 31) = 5 := by simp [Program.elem, Try.underlying31]
  have h3 := run_slice_h (P := Try.prog) w 31 A n c (by rw [hs]; exact Try.underlying31) .i64 (k : Nat) (by omega) (by omega)
  rw [hs] at h3
  obtain ⟨i0, hi0, hz0, hz1, hz2⟩ := info_parts u8_info
  rw [h3]
  simp [sizeOf, typeInfo, hi0, hz1, sliced, Result.andThen, e]
theorem two_of {L : List Rv} {a b : Rep} (h : L.map Rv.r = [a, b]) : ∃ x y, L = [x, y] ∧ x.r = a ∧ y.r = b := by
  match L, h with
  | [x, y], h => simp only [List.map_cons, List.map_nil, List.cons.injEq, and_true] at h; exact ⟨x, y, rfl, h.1, h.2⟩
def kX : Rv := ⟨kA, none, 0, none, 0, none, 0, none, 0⟩
def kY (g : Nat) : Rv := ⟨kB, none, 0, some ⟨g, 0, none⟩, 1, none, 0, none, 0⟩
set_option maxHeartbeats 2000000 in
theorem known6 (w : World) : Calls Try.prog 15 #[] w (Yes w) := by
  go_enter Try.func15, Try.ntmps15
  go_wp2_with fail
  have B0 : Blk (w.alloc (.cells #[.int .i64 3, .int .u32 1, .int .u32 2, .slice none 0 0, .slice none 0 0, .slice none 0 0, .int .u64 0, .int .i64 0, .int .i64 0, .slice none 0 0] 33)) w.heap.size 33 #[.int .i64 3, .int .u32 1, .int .u32 2, .slice none 0 0, .slice none 0 0, .slice none 0 0, .int .u64 0, .int .i64 0, .int .i64 0, .slice none 0 0] := Blk.new _ _ _
  have b1 : Below w.heap.size w (w.alloc (.cells #[.int .i64 3, .int .u32 1, .int .u32 2, .slice none 0 0, .slice none 0 0, .slice none 0 0, .int .u64 0, .int .i64 0, .int .i64 0, .slice none 0 0] 33)) := (Below.refl _ w).alloc (Nat.le_refl _) _
  have s1 : (w.alloc (.cells #[.int .i64 3, .int .u32 1, .int .u32 2, .slice none 0 0, .slice none 0 0, .slice none 0 0, .int .u64 0, .int .i64 0, .int .i64 0, .slice none 0 0] 33)).heap.size = w.heap.size + 1 := by simp
  generalize hW1 : w.alloc (.cells #[.int .i64 3, .int .u32 1, .int .u32 2, .slice none 0 0, .slice none 0 0, .slice none 0 0, .int .u64 0, .int .i64 0, .int .i64 0, .slice none 0 0] 33) = W1 at B0 b1 s1 ⊢
  have r5 := lit1_r32 5 5 rfl (by omega) W1 (w.heap.size + 1) s1.symm
  have b2 : Below W1.heap.size W1 (W1.alloc (.cells #[.int .u32 5] 27)) := (Below.refl _ W1).alloc (Nat.le_refl _) _
  replace B0 := B0.below b2 (by omega)
  replace b2 := b1.trans (b2.mono b1.size)
  have s2 : (W1.alloc (.cells #[.int .u32 5] 27)).heap.size = w.heap.size + 1 + 1 := by simp [s1]
  generalize hW2 : W1.alloc (.cells #[.int .u32 5] 27) = W2 at r5 B0 b2 s2 ⊢
  have B3 : Blk (W2.alloc (.cells #[.int .i64 3, .int .u32 1, .int .u32 2, .slice none 0 0, .slice none 0 0, .slice none 0 0, .int .u64 0, .int .i64 0, .int .i64 0, .slice none 0 0, .int .i64 5, .int .u32 0, .int .u32 0, .slice none 0 0, .slice (some ⟨w.heap.size + 1, 0, none⟩) 1 1, .slice none 0 0, .int .u64 8000, .int .i64 0, .int .i64 0, .slice none 0 0] 33)) W2.heap.size 33 #[.int .i64 3, .int .u32 1, .int .u32 2, .slice none 0 0, .slice none 0 0, .slice none 0 0, .int .u64 0, .int .i64 0, .int .i64 0, .slice none 0 0, .int .i64 5, .int .u32 0, .int .u32 0, .slice none 0 0, .slice (some ⟨w.heap.size + 1, 0, none⟩) 1 1, .slice none 0 0, .int .u64 8000, .int .i64 0, .int .i64 0, .slice none 0 0] := Blk.new _ _ _
  have b3 : Below W2.heap.size W2 (W2.alloc (.cells #[.int .i64 3, .int .u32 1, .int .u32 2, .slice none 0 0, .slice none 0 0, .slice none 0 0, .int .u64 0, .int .i64 0, .int .i64 0, .slice none 0 0, .int .i64 5, .int .u32 0, .int .u32 0, .slice none 0 0, .slice (some ⟨w.heap.size + 1, 0, none⟩) 1 1, .slice none 0 0, .int .u64 8000, .int .i64 0, .int .i64 0, .slice none 0 0] 33)) := (Below.refl _ W2).alloc (Nat.le_refl _) _
  replace B0 := B0.below b3 (by omega)
  replace r5 := r5.on b3
  replace b3 := b2.trans (b3.mono b2.size)
  rw [s2] at B3
  generalize hW3 : W2.alloc (.cells #[.int .i64 3, .int .u32 1, .int .u32 2, .slice none 0 0, .slice none 0 0, .slice none 0 0, .int .u64 0, .int .i64 0, .int .i64 0, .slice none 0 0, .int .i64 5, .int .u32 0, .int .u32 0, .slice none 0 0, .slice (some ⟨w.heap.size + 1, 0, none⟩) 1 1, .slice none 0 0, .int .u64 8000, .int .i64 0, .int .i64 0, .slice none 0 0] 33) = W3 at r5 B0 B3 b3 ⊢
  have hY : IsR W3 W3.heap.size (kY (w.heap.size + 1)) := ⟨RT.nil _ _ _ _, r5, RN.nil _ _ _ _, R8.nil _ _ _ _, kB_in⟩
  have hX : IsR W3 W3.heap.size kX := isR_bare _ _ kA kA_in rfl rfl rfl rfl
  have hrr := rr_block (n := 2) (L := [kX, kY (w.heap.size + 1)]) B3 rfl rfl (by intro x hx; simp only [List.mem_cons, List.not_mem_nil, or_false] at hx; rcases hx with rfl | rfl <;> first | exact hX | exact hY)
  have q := rtcp_bytes _ _ _ _ W3 hrr (by omega)
  replace q := q.mono fun e w' h => h.1 k6_err
  rw [show onesB ([kX, kY (w.heap.size + 1)].map Rv.r) = kBytes from k6_bytes] at q
  clear hW1 hW2 hW3 hX hY hrr r5 B3 b2 b1 s1 s2
  refine q.mono ?_
  rintro e w4 ⟨A1, n1, c1, rfl, r1, b4⟩
  clear q
  have hn1 : n1 = 36 := r1.1.symm
  subst hn1
  replace B0 := B0.below b4 B0.lt
  replace b4 := b3.trans (b4.mono b3.size)
  clear b3
  have q := rtcp_read A1 36 c1 kBytes w4 r1 (by omega)
  unfold RdOut at q
  rw [k6_read] at q
  go_wp2_with fail
  refine q.mono ?_
  rintro e w5 ⟨A2, n2, c2, L, rfl, hL, hl, hn2, b5⟩
  clear q
  obtain ⟨x0, x1, rfl, hx0, hx1⟩ := two_of hL
  obtain ⟨r0, At0, ct0, Aa0, ca0, An0, cn0, Ab0, cb0⟩ := x0
  obtain ⟨q0, At1, ct1, Aa1, ca1, An1, cn1, Ab1, cb1⟩ := x1
  simp only at hx0 hx1
  subst hx0 hx1
  have hn2 : n2 = 2 := hl.1.symm
  subst hn2
  replace B0 := B0.below b5 B0.lt
  replace r1 := r1.on b5
  replace b5 := b4.trans (b5.mono b4.size)
  clear hL b4
  have q := fun W => rtcp_read none 0 0 [] W (R8.nil _ _ _ _) (by omega)
  unfold RdOut at q
  rw [k6_nil] at q
  go_wp2_with fail
  refine (q _).mono ?_
  rintro e w6 ⟨A3, n3, c3, L3, rfl, _, _, _, b6⟩
  clear q
  replace B0 := B0.below b6 B0.lt
  replace r1 := r1.on b6
  replace hl := hl.on b6
  replace b6 := b5.trans (b6.mono b5.size)
  clear b5
  have q := fun W => (rtcp_bytes none 0 0 [] W (RR.nil _ _ _ _) (by omega)).mono fun e w' h => h.2 (by decide)
  rw [show repsErr (([] : List Rv).map Rv.r) = 1 from rfl] at q
  go_wp2_with fail
  refine (q _).mono ?_
  rintro e w7 ⟨rfl, b7⟩
  clear q
  replace B0 := B0.below b7 B0.lt
  replace r1 := r1.on b7
  replace hl := hl.on b7
  replace b7 := b6.trans (b7.mono b6.size)
  clear b6
  go_wp2_with fail
  have rl := lit_r8 [161, 206, 0, 0] #[.int .u8 161, .int .u8 206, .int .u8 0, .int .u8 0] 4 (0, 0) rfl rfl w7
  have bz : Below w7.heap.size w7 (w7.alloc (.cells #[.int .u8 161, .int .u8 206, .int .u8 0, .int .u8 0] 5)) := (Below.refl _ w7).alloc (Nat.le_refl _) _
  replace B0 := B0.below bz B0.lt
  replace r1 := r1.on bz
  replace hl := hl.on bz
  have b8 := b7.trans (bz.mono b7.size)
  have q := rtcp_read _ 4 4 [161, 206, 0, 0] _ rl (by omega)
  unfold RdOut at q
  rw [k6_form] at q
  clear b7 bz
  refine q.mono ?_
  rintro e w9 ⟨A6, n6, c6, L6, rfl, _, _, _, b9⟩
  replace B0 := B0.below b9 B0.lt
  replace r1 := r1.on b9
  replace hl := hl.on b9
  replace b9 := b8.trans (b9.mono b8.size)
  clear q b8 rl
  obtain ⟨p0, p1, p2, p3, p4, p5, p6, p7, p8, p9⟩ := blk10 B0
  obtain ⟨b, off, rfl, hbb, k0, k1, k2, k3, k4, k5, k6, k7, k8, k9⟩ := hl.at (q := 0) (by simp)
  obtain ⟨_, _, e2, _, _, _, _, _, _, _, m6, _, _, _⟩ := hl.at (q := 1) (by simp)
  cases e2
  rw [Nat.zero_mul, Nat.add_zero] at k0 k1 k2 k3 k4 k5 k6 k7 k8 k9
  rw [Nat.one_mul] at m6
  have hm6 : w9.cell? ⟨b, off + 10 + 6, none⟩ = some (.int .u64 8000) := by
    refine m6.trans ?_
    rfl
  have hc4 : ∀ W, (Instr.slice 31 (.slice A1 36 c1) none (some (.int .i64 4)) none).run Try.prog W = .ok (.slice A1 4 c1) W := fun W => run_cut_hi W A1 36 c1 4 (by have := r1.2.1; omega)
  have rt : R8 w9 w9.heap.size A1 4 c1 [129, 206, 0, 2] := by
    have := r1.cut 0 4 (by omega) (by omega)
    refine ⟨rfl, by have := r1.2.1; omega, fun _ => ?_⟩
    obtain ⟨b', o', e, hb, hc⟩ := r1.2.2 (by omega)
    refine ⟨b', o', e, hb, fun i hi => ?_⟩
    rw [hc i (by omega)]
    match i, hi with
    | 0, _ => rfl
    | 1, _ => rfl
    | 2, _ => rfl
    | 3, _ => rfl
  have s4 : (convert 31 9 (.slice A1 4 c1)).run Try.prog w9.drew = .ok (.string ⟨#[129, 206, 0, 2]⟩) w9.drew := rt.drew.string (P := Try.prog) 31 5 9 Try.underlying31 Try.underlying5 Try.underlying9
  have i0 := hl.2.1 ⟨kA, At0, ct0, Aa0, ca0, An0, cn0, Ab0, cb0⟩ (by simp)
  have hkx : ∀ W : World, IsR W W.heap.size kX := fun W => isR_bare _ _ kA kA_in rfl rfl rfl rfl
  have qs := fun W hW => rtcp_Same ⟨kA, At0, ct0, Aa0, ca0, An0, cn0, Ab0, cb0⟩ kX W (i0.on hW) (hkx W)
  rw [decide_eq_true (show (⟨kA, At0, ct0, Aa0, ca0, An0, cn0, Ab0, cb0⟩ : Rv).r = kX.r from rfl)] at qs
  replace b9 := Lib.hid b9
  have b0 := Below.refl w9.heap.size w9
  replace r1 := Lib.hid r1
  clear B0 m6 rt i0 hl
  go_upto_region 7 with (fail)
  simp only [List.append_eq, List.cons_append, List.nil_append]
  go_still_tail 27, (by kernel_rfl)
  change wpList _ _ _ _ _ w9.drew
  clear hc4 s4 k0 k1 k2 k3 k4 k5 k6 k7 k8 k9 p0 p1 p2 p3 p4 p5 p6 p7 p8 p9
  replace hm6 := Lib.hid (show w9.drew.cell? ⟨b, off + 10 + 6, none⟩ = some (.int .u64 8000) from hm6)
  have b0 : Below w9.heap.size w9 w9.drew := drew_below _
  generalize w9.drew = V at b0 ⊢
  go_wp2_with fail
  refine (qs V b0).mono ?_
  rintro e V1 ⟨rfl, b1⟩
  replace b1 := b0.trans (b1.mono b0.size)
  have hm7 := (b1.cell (p := ⟨b, off + 10 + 6, none⟩) hbb).trans hm6.out
  have qi := fun W hW => rtcp_is A1 36 c1 kBytes W (r1.out.on hW)
  rw [k6_is.1] at qi
  have qn := fun W => rtcp_is none 0 0 [] W (R8.nil _ _ _ _)
  rw [k6_is.2.1] at qn
  clear qs hkx
  go_wp2_with fail
  refine (qi V1 b1).mono ?_
  rintro e V2 ⟨rfl, rfl⟩
  clear qi
  go_wp2_with fail
  refine (qn _).mono ?_
  rintro e V2 ⟨rfl, rfl⟩
  clear qn
  have ql := fun W h => rtcp_is (some ⟨V1.heap.size, 0, none⟩) 2 2 [128, 96] W h
  rw [k6_is.2.2] at ql
  have rl := lit_r8 [128, 96] #[.int .u8 128, .int .u8 96] 2 (0, 0) rfl rfl V1
  have bl : Below V1.heap.size V1 (V1.alloc (.cells #[.int .u8 128, .int .u8 96] 5)) := (Below.refl _ V1).alloc (Nat.le_refl _) _
  replace bl := b1.trans (bl.mono b1.size)
  go_wp2_with fail
  refine (ql _ rl).mono ?_
  rintro e V2 ⟨rfl, rfl⟩
  clear ql rl
  have qz := fun W => rtcp_Right ⟨kZ, none, 0, none, 0, none, 0, none, 0⟩ W (isR_bare _ _ kZ kZ_in rfl rfl rfl rfl)
  rw [show (⟨kZ, none, 0, none, 0, none, 0, none, 0⟩ : Rv).r.err = 12 from k6_zero] at qz
  go_wp2_with fail
  refine (qz _).mono ?_
  rintro e V3 ⟨rfl, b3⟩
  replace bl := bl.trans (b3.mono bl.size)
  replace bl := b9.out.trans (bl.mono b9.out.size)
  clear qz b3 hm7
  go_wp2_with fail
  go_ret
  exact ⟨rfl, bl⟩
end Go.Proofs.Ytnchgmemajmkjaa.RP
