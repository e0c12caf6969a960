/- Contracts: limelightref6.Same. -/
import Derived.Test.YtnchgmemajmkjaaRcN
import Derived.Deep.CutRange
namespace Go.Proofs.Ytnchgmemajmkjaa
open Go.RowKit
set_option linter.unusedVariables false
set_option linter.unusedSimpArgs false
set_option maxRecDepth 100000

deriving instance DecidableEq for Rep
theorem AnsQ.q {v : Value} {w w' : World} {e : Ending} (h : AnsQ v w e w') : e = .returned v ∧ ∃ k, w' = w.drewN k := h
theorem R32.drewN {w : World} {B n c : Nat} {A : Option Addr} {l : List Nat} (h : R32 w B A n c l) (k : Nat) : R32 (w.drewN k) B A n c l := h
theorem RN.drewN {w : World} {B n c : Nat} {A : Option Addr} {l : List Int} (h : RN w B A n c l) (k : Nat) : RN (w.drewN k) B A n c l := h
theorem RT.drewN {w : World} {B n c : Nat} {A : Option Addr} {l : List Tup} (h : RT w B A n c l) (k : Nat) : RT (w.drewN k) B A n c l := h
set_option maxHeartbeats 4000000 in
theorem ref6_Same (x y : Rv) (w : World) (hx : IsR w w.heap.size x) (hy : IsR w w.heap.size y) : Calls Try.prog 18 #[x.val, y.val] w (AnsW (.bool (decide (x.r = y.r))) w) := by
  obtain ⟨⟨kind1, src1, about1, tups1, abouts1, nums1, rate1, ty1, count1, body1⟩, At1, ct1, Aa1, ca1, An1, cn1, Ab1, cb1⟩ := x
  obtain ⟨⟨kind2, src2, about2, tups2, abouts2, nums2, rate2, ty2, count2, body2⟩, At2, ct2, Aa2, ca2, An2, cn2, Ab2, cb2⟩ := y
  obtain ⟨p1, p2, p3, p4, k1⟩ := hx
  obtain ⟨q1, q2, q3, q4, k2⟩ := hy
  have l1 := k1.tups
  have l2 := k1.abouts
  have l3 := k1.nums
  have l4 := k2.tups
  have l5 := k2.abouts
  have l6 := k2.nums
  clear k1 k2
  simp only at p1 p2 p3 p4 q1 q2 q3 q4 l1 l2 l3 l4 l5 l6
  simp only [Rv.val, Rv.cells]
  have hb1 : Below w.heap.size w (w.alloc (.cells #[.int .i64 kind1, .int .u32 (src1 : Int), .int .u32 (about1 : Int), .slice At1 tups1.length ct1, .slice Aa1 abouts1.length ca1, .slice An1 nums1.length cn1, .int .u64 (rate1 : Int), .int .i64 ty1, .int .i64 count1, .slice Ab1 body1.length cb1] 33)) := (Below.refl w.heap.size w).alloc (Nat.le_refl _) _
  have hb2 : Below w.heap.size w ((w.alloc (.cells #[.int .i64 kind1, .int .u32 (src1 : Int), .int .u32 (about1 : Int), .slice At1 tups1.length ct1, .slice Aa1 abouts1.length ca1, .slice An1 nums1.length cn1, .int .u64 (rate1 : Int), .int .i64 ty1, .int .i64 count1, .slice Ab1 body1.length cb1] 33)).alloc (.cells #[.int .i64 kind2, .int .u32 (src2 : Int), .int .u32 (about2 : Int), .slice At2 tups2.length ct2, .slice Aa2 abouts2.length ca2, .slice An2 nums2.length cn2, .int .u64 (rate2 : Int), .int .i64 ty2, .int .i64 count2, .slice Ab2 body2.length cb2] 33)) := hb1.alloc hb1.size _
  have hZ1 : Blk (w.alloc (.cells #[.int .i64 kind1, .int .u32 (src1 : Int), .int .u32 (about1 : Int), .slice At1 tups1.length ct1, .slice Aa1 abouts1.length ca1, .slice An1 nums1.length cn1, .int .u64 (rate1 : Int), .int .i64 ty1, .int .i64 count1, .slice Ab1 body1.length cb1] 33)) w.heap.size 33 #[.int .i64 kind1, .int .u32 (src1 : Int), .int .u32 (about1 : Int), .slice At1 tups1.length ct1, .slice Aa1 abouts1.length ca1, .slice An1 nums1.length cn1, .int .u64 (rate1 : Int), .int .i64 ty1, .int .i64 count1, .slice Ab1 body1.length cb1] := Blk.new _ _ _
  have hZ2 : Blk ((w.alloc (.cells #[.int .i64 kind1, .int .u32 (src1 : Int), .int .u32 (about1 : Int), .slice At1 tups1.length ct1, .slice Aa1 abouts1.length ca1, .slice An1 nums1.length cn1, .int .u64 (rate1 : Int), .int .i64 ty1, .int .i64 count1, .slice Ab1 body1.length cb1] 33)).alloc (.cells #[.int .i64 kind2, .int .u32 (src2 : Int), .int .u32 (about2 : Int), .slice At2 tups2.length ct2, .slice Aa2 abouts2.length ca2, .slice An2 nums2.length cn2, .int .u64 (rate2 : Int), .int .i64 ty2, .int .i64 count2, .slice Ab2 body2.length cb2] 33)) (w.alloc (.cells #[.int .i64 kind1, .int .u32 (src1 : Int), .int .u32 (about1 : Int), .slice At1 tups1.length ct1, .slice Aa1 abouts1.length ca1, .slice An1 nums1.length cn1, .int .u64 (rate1 : Int), .int .i64 ty1, .int .i64 count1, .slice Ab1 body1.length cb1] 33)).heap.size 33 #[.int .i64 kind2, .int .u32 (src2 : Int), .int .u32 (about2 : Int), .slice At2 tups2.length ct2, .slice Aa2 abouts2.length ca2, .slice An2 nums2.length cn2, .int .u64 (rate2 : Int), .int .i64 ty2, .int .i64 count2, .slice Ab2 body2.length cb2] := Blk.new _ _ _
  have hZ3 : Blk ((w.alloc (.cells #[.int .i64 kind1, .int .u32 (src1 : Int), .int .u32 (about1 : Int), .slice At1 tups1.length ct1, .slice Aa1 abouts1.length ca1, .slice An1 nums1.length cn1, .int .u64 (rate1 : Int), .int .i64 ty1, .int .i64 count1, .slice Ab1 body1.length cb1] 33)).alloc (.cells #[.int .i64 kind2, .int .u32 (src2 : Int), .int .u32 (about2 : Int), .slice At2 tups2.length ct2, .slice Aa2 abouts2.length ca2, .slice An2 nums2.length cn2, .int .u64 (rate2 : Int), .int .i64 ty2, .int .i64 count2, .slice Ab2 body2.length cb2] 33)) w.heap.size 33 #[.int .i64 kind1, .int .u32 (src1 : Int), .int .u32 (about1 : Int), .slice At1 tups1.length ct1, .slice Aa1 abouts1.length ca1, .slice An1 nums1.length cn1, .int .u64 (rate1 : Int), .int .i64 ty1, .int .i64 count1, .slice Ab1 body1.length cb1] := (((Below.refl _ _).alloc (Nat.le_refl _) _).block _ hZ1.lt).trans hZ1
  have hsz : (w.alloc (.cells #[.int .i64 kind1, .int .u32 (src1 : Int), .int .u32 (about1 : Int), .slice At1 tups1.length ct1, .slice Aa1 abouts1.length ca1, .slice An1 nums1.length cn1, .int .u64 (rate1 : Int), .int .i64 ty1, .int .i64 count1, .slice Ab1 body1.length cb1] 33)).heap.size = w.heap.size + 1 := by simp
  rw [hsz] at hZ2
  go_enter Try.func18, Try.ntmps18
  go_upto_region 1 with (fail)
  clear hb1 hZ1 hsz
  revert hb2 hZ2 hZ3
  generalize ((w.alloc (.cells #[.int .i64 kind1, .int .u32 (src1 : Int), .int .u32 (about1 : Int), .slice At1 tups1.length ct1, .slice Aa1 abouts1.length ca1, .slice An1 nums1.length cn1, .int .u64 (rate1 : Int), .int .i64 ty1, .int .i64 count1, .slice Ab1 body1.length cb1] 33)).alloc (.cells #[.int .i64 kind2, .int .u32 (src2 : Int), .int .u32 (about2 : Int), .slice At2 tups2.length ct2, .slice Aa2 abouts2.length ca2, .slice An2 nums2.length cn2, .int .u64 (rate2 : Int), .int .i64 ty2, .int .i64 count2, .slice Ab2 body2.length cb2] 33)) = W
  intro hb2 hZ2 hZ3
  have k00 : W.cell? ⟨w.heap.size, 0, none⟩ = some (.int .i64 kind1) := hZ3.cell 0
  have k01 : W.cell? ⟨w.heap.size, 1, none⟩ = some (.int .u32 (src1 : Int)) := hZ3.cell 1
  have k02 : W.cell? ⟨w.heap.size, 2, none⟩ = some (.int .u32 (about1 : Int)) := hZ3.cell 2
  have k03 : W.cell? ⟨w.heap.size, 3, none⟩ = some (.slice At1 tups1.length ct1) := hZ3.cell 3
  have k04 : W.cell? ⟨w.heap.size, 4, none⟩ = some (.slice Aa1 abouts1.length ca1) := hZ3.cell 4
  have k05 : W.cell? ⟨w.heap.size, 5, none⟩ = some (.slice An1 nums1.length cn1) := hZ3.cell 5
  have k06 : W.cell? ⟨w.heap.size, 6, none⟩ = some (.int .u64 (rate1 : Int)) := hZ3.cell 6
  have k07 : W.cell? ⟨w.heap.size, 7, none⟩ = some (.int .i64 ty1) := hZ3.cell 7
  have k08 : W.cell? ⟨w.heap.size, 8, none⟩ = some (.int .i64 count1) := hZ3.cell 8
  have k09 : W.cell? ⟨w.heap.size, 9, none⟩ = some (.slice Ab1 body1.length cb1) := hZ3.cell 9
  have k10 : W.cell? ⟨w.heap.size + 1, 0, none⟩ = some (.int .i64 kind2) := hZ2.cell 0
  have k11 : W.cell? ⟨w.heap.size + 1, 1, none⟩ = some (.int .u32 (src2 : Int)) := hZ2.cell 1
  have k12 : W.cell? ⟨w.heap.size + 1, 2, none⟩ = some (.int .u32 (about2 : Int)) := hZ2.cell 2
  have k13 : W.cell? ⟨w.heap.size + 1, 3, none⟩ = some (.slice At2 tups2.length ct2) := hZ2.cell 3
  have k14 : W.cell? ⟨w.heap.size + 1, 4, none⟩ = some (.slice Aa2 abouts2.length ca2) := hZ2.cell 4
  have k15 : W.cell? ⟨w.heap.size + 1, 5, none⟩ = some (.slice An2 nums2.length cn2) := hZ2.cell 5
  have k16 : W.cell? ⟨w.heap.size + 1, 6, none⟩ = some (.int .u64 (rate2 : Int)) := hZ2.cell 6
  have k17 : W.cell? ⟨w.heap.size + 1, 7, none⟩ = some (.int .i64 ty2) := hZ2.cell 7
  have k18 : W.cell? ⟨w.heap.size + 1, 8, none⟩ = some (.int .i64 count2) := hZ2.cell 8
  have k19 : W.cell? ⟨w.heap.size + 1, 9, none⟩ = some (.slice Ab2 body2.length cb2) := hZ2.cell 9
  have s1 := (p4.on hb2).string (P := Try.prog) 31 5 9 Try.underlying31 Try.underlying5 Try.underlying9
  have s2 := (q4.on hb2).string (P := Try.prog) 31 5 9 Try.underlying31 Try.underlying5 Try.underlying9
  have ca := ref6_nums _ _ _ _ _ _ _ _ _ (p2.on hb2) (q2.on hb2) l2 l5
  have ct := fun n => ref6_Tuples _ _ _ _ _ _ _ _ _ ((p1.on hb2).drewN n) ((q1.on hb2).drewN n) l1 l4
  have r1 := p3.on hb2
  have r2 := q3.on hb2
  clear p1 p2 p3 p4 q1 q2 q3 q4 hZ2 hZ3 l1 l2 l4 l5
  by_cases e : kind1 = kind2
  rotate_left
  · have g : (kind1 != kind2) = true := by simpa using e
    clear s1 s2 ca ct r1 r2
    go_wp2_with fail
    go_ret
    exact ⟨by simp [e], hb2⟩
  subst e
  by_cases e : src1 = src2
  rotate_left
  · have g : ((src1 : Int) != (src2 : Int)) = true := by simp; omega
    clear s1 s2 ca ct r1 r2
    go_wp2_with fail
    go_ret
    exact ⟨by simp [e], hb2⟩
  subst e
  by_cases e : about1 = about2
  rotate_left
  · have g : ((about1 : Int) != (about2 : Int)) = true := by simp; omega
    clear s1 s2 ca ct r1 r2
    go_wp2_with fail
    go_ret
    exact ⟨by simp [e], hb2⟩
  subst e
  by_cases e : rate1 = rate2
  rotate_left
  · have g : ((rate1 : Int) != (rate2 : Int)) = true := by simp; omega
    clear s1 s2 ca ct r1 r2
    go_wp2_with fail
    go_ret
    exact ⟨by simp [e], hb2⟩
  subst e
  by_cases e : ty1 = ty2
  rotate_left
  · have g : (ty1 != ty2) = true := by simpa using e
    clear s1 s2 ca ct r1 r2
    go_wp2_with fail
    go_ret
    exact ⟨by simp [e], hb2⟩
  subst e
  by_cases e : count1 = count2
  rotate_left
  · have g : (count1 != count2) = true := by simpa using e
    clear s1 s2 ca ct r1 r2
    go_wp2_with fail
    go_ret
    exact ⟨by simp [e], hb2⟩
  subst e
  by_cases e : body1 = body2
  rotate_left
  · have g : (body1 == body2) = false := by simpa using e
    clear ca ct r1 r2
    go_wp2_with fail
    go_ret
    exact ⟨by simp [e], hb2⟩
  subst e
  by_cases e : abouts1 = abouts2
  rotate_left
  · rw [decide_eq_false e] at ca
    clear ct r1 r2
    go_wp2_with fail
    ((with_reducible refine ca.mono ?_); rintro e w1 ⟨rfl, n1, rfl⟩)
    clear ca
    have hb3 := hb2
    have hb2 := hb2.trans ((below_drewN _ _ n1).mono hb2.size)
    go_wp2_with fail
    go_ret
    exact ⟨by simp [e], hb2⟩
  subst e
  rw [decide_eq_true (rfl : abouts1 = abouts1)] at ca
  by_cases e : tups1 = tups2
  rotate_left
  · rw [decide_eq_false e] at ct
    clear r1 r2
    go_wp2_with fail
    ((with_reducible refine ca.mono ?_); rintro e w1 ⟨rfl, n1, rfl⟩)
    clear ca
    have hb3 := hb2
    have hb2 := hb2.trans ((below_drewN _ _ n1).mono hb2.size)
    go_wp2_with fail
    ((with_reducible refine (ct _).mono ?_); rintro e w1 ⟨rfl, n2, rfl⟩)
    clear ct
    have hb2 : Below w.heap.size w (W.drewN (n1 + n2)) := hb3.trans ((below_drewN _ _ _).mono hb3.size)
    go_wp2_with fail
    go_ret
    exact ⟨by simp [e], hb2⟩
  subst e
  rw [decide_eq_true (rfl : tups1 = tups1)] at ct
  by_cases e : nums1.length = nums2.length
  rotate_left
  · have g : ((nums1.length : Int) != (nums2.length : Int)) = true := by simp; omega
    have e' : nums1 ≠ nums2 := fun h => e (congrArg List.length h)
    clear r1 r2
    have E' := Lib.hid e'
    clear e e'
    go_wp2_with fail
    ((with_reducible refine ca.mono ?_); rintro e w1 ⟨rfl, n1, rfl⟩)
    clear ca
    have hb3 := hb2
    have hb2 := hb2.trans ((below_drewN _ _ n1).mono hb2.size)
    go_wp2_with fail
    ((with_reducible refine (ct _).mono ?_); rintro e w1 ⟨rfl, n2, rfl⟩)
    clear ct
    have hb2 : Below w.heap.size w (W.drewN (n1 + n2)) := hb3.trans ((below_drewN _ _ _).mono hb3.size)
    go_wp2_with fail
    go_ret
    exact ⟨by simp [E'.out], hb2⟩
  have g : ((nums1.length : Int) != (nums2.length : Int)) = false := by simp; omega
  have hln := Lib.hid e
  clear e
  have r1 := fun n => RN.drewN r1 n
  have r2 := fun n => RN.drewN r2 n
  go_wp2_with fail
  ((with_reducible refine ca.mono ?_); rintro e w1 ⟨rfl, n1, rfl⟩)
  go_wp2_with fail
  ((with_reducible refine (ct _).mono ?_); rintro e w1 ⟨rfl, n2, rfl⟩)
  go_wp2_with fail
  have hb3 : Below w.heap.size w (W.drewN (n1 + n2)) := hb2.trans ((below_drewN _ _ _).mono hb2.size)
  have r1 := r1 (n1 + n2)
  have r2 := r2 (n1 + n2)
  have f1 : (W.drewN (n1 + n2)).cell? ⟨w.heap.size, 5, none⟩ = some (.slice An1 nums1.length cn1) := k05
  have f2 : (W.drewN (n1 + n2)).cell? ⟨w.heap.size + 1, 5, none⟩ = some (.slice An2 nums2.length cn2) := k15
  clear s1 s2 ca ct k00 k01 k02 k03 k04 k05 k06 k07 k08 k09 k10 k11 k12 k13 k14 k15 k16 k17 k18 k19 hb2 g
  generalize W.drewN (n1 + n2) = Z at hb3 r1 r2 f1 f2 ⊢
  go_loopw [5, 83] (fun _ i wr => ∃ q : Nat, q ≤ nums1.length ∧ i = .int .i64 (q : Int) ∧ nums1.take q = nums2.take q ∧ ∃ k, wr = Z.drewN k) (fun _ i _ => nums1.length - (intOf i).toNat)
  case atStart => exact ⟨0, by omega, rfl, by simp, 0, rfl⟩
  case round =>
    obtain ⟨q, hq, rfl, htk, k, rfl⟩ := hrel
    have HT := Lib.hid htk
    clear htk
    by_cases hlt : q < nums1.length
    · have g3 : decide ((q : Int) < (nums1.length : Int)) = true := by simp; omega
      have g4 : (q : Int) < (nums2.length : Int) := by have := hln.out; omega
      have g5 : (q : Int) < (nums1.length : Int) := by omega
      have hq2 : q < nums2.length := by have := hln.out; omega
      obtain ⟨x1, y1, rfl, z1, t1⟩ := r1.at hlt
      obtain ⟨x2, y2, rfl, z2, t2⟩ := r2.at hq2
      have hst := Lib.hid (fun he => take_same hlt hq2 HT.out he)
      have hne : nums1[q] ≠ nums2[q] → nums1 ≠ nums2 := fun hx e => hx (by subst e; rfl)
      have HN := Lib.hid hne
      have t1 : (Z.drewN k).cell? _ = _ := t1
      have t2 : (Z.drewN k).cell? _ = _ := t2
      have f1 : (Z.drewN k).cell? _ = _ := f1
      have f2 : (Z.drewN k).cell? _ = _ := f2
      clear r1 r2 hne
      generalize nums1[q] = a at t1 hst HN
      generalize nums2[q] = b at t2 hst HN
      generalize hW : Z.drewN k = Y at t1 t2 f1 f2 ⊢
      have HW := Lib.hid hW
      clear hW
      by_cases hab : a = b
      · subst hab
        go_wp2_with fail
        go_quiet (fail)
        clear t1 t2 f1 f2
        go_wp2_with fail
        go_roundw
        case rel => exact ⟨q + 1, by omega, by go_num, hst.out (by simp), k + nq, by rw [← HW.out]; exact World.drewN_drewN _ _ _⟩
        case measure => simp [intOf]; omega
      · have g6 : (a != b) = true := by simpa using hab
        have hf := Lib.hid (HN.out hab)
        clear hab HN
        go_wp2_with fail
        go_quiet (fail)
        clear t1 t2 f1 f2
        go_wp2_with fail
        go_ret
        have h1 : decide _ = false := decide_eq_false hf.out
        refine ⟨by simp [hf.out], ?_⟩
        rw [← HW.out]
        exact hb3.trans (((below_drewN _ _ _).trans (below_drewN _ _ _)).mono hb3.size)
    · have g3 : ¬ (q : Int) < (nums1.length : Int) := by omega
      have he : nums1 = nums2 := by
        have := HT.out
        rwa [List.take_of_length_le (by omega), List.take_of_length_le (by have := hln.out; omega)] at this
      have HE := Lib.hid he
      clear he r1 r2
      go_wp2_with fail
      go_ret
      exact ⟨by simp [HE.out], hb3.trans ((below_drewN _ _ _).mono hb3.size)⟩
end Go.Proofs.Ytnchgmemajmkjaa
