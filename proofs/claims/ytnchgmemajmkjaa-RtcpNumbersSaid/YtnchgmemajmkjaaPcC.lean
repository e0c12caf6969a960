/- Contract: rtcp.Same. -/
import Derived.Test.YtnchgmemajmkjaaPcA
import Derived.Test.YtnchgmemajmkjaaRcS
import Derived.Test.YtnchgmemajmkjaaRcR
namespace Go.Proofs.Ytnchgmemajmkjaa
open Go.RowKit
set_option linter.unusedVariables false
set_option linter.unusedSimpArgs false
set_option maxRecDepth 100000

set_option maxHeartbeats 4000000 in
theorem rtcp_Same (x y : Rv) (w : World) (hx : IsR w w.heap.size x) (hy : IsR w w.heap.size y) : Calls Try.prog 17 #[x.val, y.val] w (AnsW (.bool (decide (x.r = y.r))) w) := by
  obtain ⟨⟨kind1, src1, about1, tups1, abouts1, nums1, rate1, ty1, count1, body1⟩, At1, ct1, Aa1, ca1, An1, cn1, Ab1, cb1⟩ := x
  obtain ⟨⟨kind2, src2, about2, tups2, abouts2, nums2, rate2, ty2, count2, body2⟩, At2, ct2, Aa2, ca2, An2, cn2, Ab2, cb2⟩ := y
  obtain ⟨p1, p2, p3, p4, k1⟩ := hx
  obtain ⟨q1, q2, q3, q4, k2⟩ := hy
  have l1 := k1.tups
  have l2 := k1.abouts
  have l3 := k1.nums
  have l7 := k1.body
  have l4 := k2.tups
  have l5 := k2.abouts
  have l6 := k2.nums
  have l8 := k2.body
  clear k1 k2
  simp only at p1 p2 p3 p4 q1 q2 q3 q4 l1 l2 l3 l4 l5 l6 l7 l8
  simp only [Rv.val, Rv.cells]
  have hb1 : Below w.heap.size w (w.alloc (.cells #[.int .i64 kind1, .int .u32 (src1 : Int), .int .u32 (about1 : Int), .slice At1 tups1.length ct1, .slice Aa1 abouts1.length ca1, .slice An1 nums1.length cn1, .int .u64 (rate1 : Int), .int .i64 ty1, .int .i64 count1, .slice Ab1 body1.length cb1] 33)) := (Below.refl w.heap.size w).alloc (Nat.le_refl _) _
  have hb2 : Below w.heap.size w ((w.alloc (.cells #[.int .i64 kind1, .int .u32 (src1 : Int), .int .u32 (about1 : Int), .slice At1 tups1.length ct1, .slice Aa1 abouts1.length ca1, .slice An1 nums1.length cn1, .int .u64 (rate1 : Int), .int .i64 ty1, .int .i64 count1, .slice Ab1 body1.length cb1] 33)).alloc (.cells #[.int .i64 kind2, .int .u32 (src2 : Int), .int .u32 (about2 : Int), .slice At2 tups2.length ct2, .slice Aa2 abouts2.length ca2, .slice An2 nums2.length cn2, .int .u64 (rate2 : Int), .int .i64 ty2, .int .i64 count2, .slice Ab2 body2.length cb2] 33)) := hb1.alloc hb1.size _
  have hZ1 : Blk (w.alloc (.cells #[.int .i64 kind1, .int .u32 (src1 : Int), .int .u32 (about1 : Int), .slice At1 tups1.length ct1, .slice Aa1 abouts1.length ca1, .slice An1 nums1.length cn1, .int .u64 (rate1 : Int), .int .i64 ty1, .int .i64 count1, .slice Ab1 body1.length cb1] 33)) w.heap.size 33 #[.int .i64 kind1, .int .u32 (src1 : Int), .int .u32 (about1 : Int), .slice At1 tups1.length ct1, .slice Aa1 abouts1.length ca1, .slice An1 nums1.length cn1, .int .u64 (rate1 : Int), .int .i64 ty1, .int .i64 count1, .slice Ab1 body1.length cb1] := Blk.new _ _ _
  have hZ2 : Blk ((w.alloc (.cells #[.int .i64 kind1, .int .u32 (src1 : Int), .int .u32 (about1 : Int), .slice At1 tups1.length ct1, .slice Aa1 abouts1.length ca1, .slice An1 nums1.length cn1, .int .u64 (rate1 : Int), .int .i64 ty1, .int .i64 count1, .slice Ab1 body1.length cb1] 33)).alloc (.cells #[.int .i64 kind2, .int .u32 (src2 : Int), .int .u32 (about2 : Int), .slice At2 tups2.length ct2, .slice Aa2 abouts2.length ca2, .slice An2 nums2.length cn2, .int .u64 (rate2 : Int), .int .i64 ty2, .int .i64 count2, .slice Ab2 body2.length cb2] 33)) (w.alloc (.cells #[.int .i64 kind1, .int .u32 (src1 : Int), .int .u32 (about1 : Int), .slice At1 tups1.length ct1, .slice Aa1 abouts1.length ca1, .slice An1 nums1.length cn1, .int .u64 (rate1 : Int), .int .i64 ty1, .int .i64 count1, .slice Ab1 body1.length cb1] 33)).heap.size 33 #[.int .i64 kind2, .int .u32 (src2 : Int), .int .u32 (about2 : Int), .slice At2 tups2.length ct2, .slice Aa2 abouts2.length ca2, .slice An2 nums2.length cn2, .int .u64 (rate2 : Int), .int .i64 ty2, .int .i64 count2, .slice Ab2 body2.length cb2] := Blk.new _ _ _
  have hZ3 : Blk ((w.alloc (.cells #[.int .i64 kind1, .int .u32 (src1 : Int), .int .u32 (about1 : Int), .slice At1 tups1.length ct1, .slice Aa1 abouts1.length ca1, .slice An1 nums1.length cn1, .int .u64 (rate1 : Int), .int .i64 ty1, .int .i64 count1, .slice Ab1 body1.length cb1] 33)).alloc (.cells #[.int .i64 kind2, .int .u32 (src2 : Int), .int .u32 (about2 : Int), .slice At2 tups2.length ct2, .slice Aa2 abouts2.length ca2, .slice An2 nums2.length cn2, .int .u64 (rate2 : Int), .int .i64 ty2, .int .i64 count2, .slice Ab2 body2.length cb2] 33)) w.heap.size 33 #[.int .i64 kind1, .int .u32 (src1 : Int), .int .u32 (about1 : Int), .slice At1 tups1.length ct1, .slice Aa1 abouts1.length ca1, .slice An1 nums1.length cn1, .int .u64 (rate1 : Int), .int .i64 ty1, .int .i64 count1, .slice Ab1 body1.length cb1] := (((Below.refl _ _).alloc (Nat.le_refl _) _).block _ hZ1.lt).trans hZ1
  have hsz : (w.alloc (.cells #[.int .i64 kind1, .int .u32 (src1 : Int), .int .u32 (about1 : Int), .slice At1 tups1.length ct1, .slice Aa1 abouts1.length ca1, .slice An1 nums1.length cn1, .int .u64 (rate1 : Int), .int .i64 ty1, .int .i64 count1, .slice Ab1 body1.length cb1] 33)).heap.size = w.heap.size + 1 := by simp
  rw [hsz] at hZ2
  have ct := fun W h1 h2 => eqT At1 tups1.length ct1 tups1 At2 tups2.length ct2 tups2 W h1 h2 l1 l4
  have ca := fun W h1 h2 => eqW Aa1 abouts1.length ca1 abouts1 Aa2 abouts2.length ca2 abouts2 W h1 h2 l2 l5
  have ci := fun W h1 h2 => eqI An1 nums1.length cn1 nums1 An2 nums2.length cn2 nums2 W h1 h2 l3 l6
  have cb := fun W h1 h2 => eqB Ab1 body1.length cb1 body1 Ab2 body2.length cb2 body2 W h1 h2 l7 l8
  have p1 := p1.on hb2
  have p2 := p2.on hb2
  have p3 := p3.on hb2
  have p4 := p4.on hb2
  have q1 := q1.on hb2
  have q2 := q2.on hb2
  have q3 := q3.on hb2
  have q4 := q4.on hb2
  clear l1 l2 l3 l4 l5 l6 l7 l8 hb1 hZ1 hsz
  by_cases e : kind1 = kind2
  rotate_left
  · have g : (kind1 == kind2) = false := by simpa using e
    clear ct ca ci cb p1 p2 p3 p4 q1 q2 q3 q4 hZ2 hZ3
    go_enter Try.func17, Try.ntmps17
    go_wp2_with fail
    go_ret
    exact ⟨by simp [e], hb2⟩
  subst e
  by_cases e : src1 = src2
  rotate_left
  · have g : ((src1 : Int) == (src2 : Int)) = false := by simp; omega
    clear ct ca ci cb p1 p2 p3 p4 q1 q2 q3 q4 hZ2 hZ3
    go_enter Try.func17, Try.ntmps17
    go_wp2_with fail
    go_ret
    exact ⟨by simp [e], hb2⟩
  subst e
  by_cases e : about1 = about2
  rotate_left
  · have g : ((about1 : Int) == (about2 : Int)) = false := by simp; omega
    clear ct ca ci cb p1 p2 p3 p4 q1 q2 q3 q4 hZ2 hZ3
    go_enter Try.func17, Try.ntmps17
    go_wp2_with fail
    go_ret
    exact ⟨by simp [e], hb2⟩
  subst e
  by_cases e : rate1 = rate2
  rotate_left
  · have g : ((rate1 : Int) == (rate2 : Int)) = false := by simp; omega
    clear ct ca ci cb p1 p2 p3 p4 q1 q2 q3 q4 hZ2 hZ3
    go_enter Try.func17, Try.ntmps17
    go_wp2_with fail
    go_ret
    exact ⟨by simp [e], hb2⟩
  subst e
  by_cases e : ty1 = ty2
  rotate_left
  · have g : (ty1 == ty2) = false := by simpa using e
    clear ct ca ci cb p1 p2 p3 p4 q1 q2 q3 q4 hZ2 hZ3
    go_enter Try.func17, Try.ntmps17
    go_wp2_with fail
    go_ret
    exact ⟨by simp [e], hb2⟩
  subst e
  by_cases e : count1 = count2
  rotate_left
  · have g : (count1 == count2) = false := by simpa using e
    clear ct ca ci cb p1 p2 p3 p4 q1 q2 q3 q4 hZ2 hZ3
    go_enter Try.func17, Try.ntmps17
    go_wp2_with fail
    go_ret
    exact ⟨by simp [e], hb2⟩
  subst e
  go_enter Try.func17, Try.ntmps17
  go_wp2_with fail
  generalize ((w.alloc (.cells #[.int .i64 kind1, .int .u32 (src1 : Int), .int .u32 (about1 : Int), .slice At1 tups1.length ct1, .slice Aa1 abouts1.length ca1, .slice An1 nums1.length cn1, .int .u64 (rate1 : Int), .int .i64 ty1, .int .i64 count1, .slice Ab1 body1.length cb1] 33)).alloc (.cells #[.int .i64 kind1, .int .u32 (src1 : Int), .int .u32 (about1 : Int), .slice At2 tups2.length ct2, .slice Aa2 abouts2.length ca2, .slice An2 nums2.length cn2, .int .u64 (rate1 : Int), .int .i64 ty1, .int .i64 count1, .slice Ab2 body2.length cb2] 33)) = W at hb2 hZ2 hZ3 p1 p2 p3 p4 q1 q2 q3 q4 ⊢
  ((with_reducible refine (ct _ p1 q1).mono ?_); rintro e w1 ⟨rfl, k0, rfl⟩)
  clear ct
  have hb2 := hb2.trans ((below_drewN _ W k0).mono hb2.size)
  by_cases e : tups1 = tups2
  rotate_left
  · have g : decide (tups1 = tups2) = false := decide_eq_false e
    rw [g]
    clear g
    go_wp2_with fail
    go_ret
    exact ⟨by simp [e], hb2⟩
  have E0 := Lib.hid e
  have g : decide (tups1 = tups2) = true := decide_eq_true e
  rw [g]
  clear g e
  have hZ2 := hZ2.drewN k0
  have hZ3 := hZ3.drewN k0
  have p2 := p2.on (below_drewN _ W k0)
  have q2 := q2.on (below_drewN _ W k0)
  have p3 := p3.on (below_drewN _ W k0)
  have q3 := q3.on (below_drewN _ W k0)
  have p4 := p4.on (below_drewN _ W k0)
  have q4 := q4.on (below_drewN _ W k0)
  generalize W.drewN k0 = W at hb2 hZ2 hZ3 p2 q2 p3 q3 p4 q4 ⊢
  obtain ⟨y0, y1, y2, y3, y4, y5, y6, y7, y8, y9⟩ := blk10 hZ3
  obtain ⟨z0, z1, z2, z3, z4, z5, z6, z7, z8, z9⟩ := blk10 hZ2
  go_wp2_with fail
  clear y0 y1 y2 y3 y4 y5 y6 y7 y8 y9 z0 z1 z2 z3 z4 z5 z6 z7 z8 z9
  ((with_reducible refine (ca _ p2 q2).mono ?_); rintro e w2 ⟨rfl, k1, rfl⟩)
  clear ca
  have hb2 := hb2.trans ((below_drewN _ W k1).mono hb2.size)
  by_cases e : abouts1 = abouts2
  rotate_left
  · have g : decide (abouts1 = abouts2) = false := decide_eq_false e
    rw [g]
    clear g
    go_wp2_with fail
    go_ret
    exact ⟨by simp [e], hb2⟩
  have E1 := Lib.hid e
  have g : decide (abouts1 = abouts2) = true := decide_eq_true e
  rw [g]
  clear g e
  have hZ2 := hZ2.drewN k1
  have hZ3 := hZ3.drewN k1
  have p3 := p3.on (below_drewN _ W k1)
  have q3 := q3.on (below_drewN _ W k1)
  have p4 := p4.on (below_drewN _ W k1)
  have q4 := q4.on (below_drewN _ W k1)
  generalize W.drewN k1 = W at hb2 hZ2 hZ3 p3 q3 p4 q4 ⊢
  obtain ⟨y0, y1, y2, y3, y4, y5, y6, y7, y8, y9⟩ := blk10 hZ3
  obtain ⟨z0, z1, z2, z3, z4, z5, z6, z7, z8, z9⟩ := blk10 hZ2
  go_wp2_with fail
  clear y0 y1 y2 y3 y4 y5 y6 y7 y8 y9 z0 z1 z2 z3 z4 z5 z6 z7 z8 z9
  ((with_reducible refine (ci _ p3 q3).mono ?_); rintro e w3 ⟨rfl, k2, rfl⟩)
  clear ci
  have hb2 := hb2.trans ((below_drewN _ W k2).mono hb2.size)
  by_cases e : nums1 = nums2
  rotate_left
  · have g : decide (nums1 = nums2) = false := decide_eq_false e
    rw [g]
    clear g
    go_wp2_with fail
    go_ret
    exact ⟨by simp [e], hb2⟩
  have E2 := Lib.hid e
  have g : decide (nums1 = nums2) = true := decide_eq_true e
  rw [g]
  clear g e
  have hZ2 := hZ2.drewN k2
  have hZ3 := hZ3.drewN k2
  have p4 := p4.on (below_drewN _ W k2)
  have q4 := q4.on (below_drewN _ W k2)
  generalize W.drewN k2 = W at hb2 hZ2 hZ3 p4 q4 ⊢
  obtain ⟨y0, y1, y2, y3, y4, y5, y6, y7, y8, y9⟩ := blk10 hZ3
  obtain ⟨z0, z1, z2, z3, z4, z5, z6, z7, z8, z9⟩ := blk10 hZ2
  go_wp2_with fail
  clear y0 y1 y2 y3 y4 y5 y6 y7 y8 y9 z0 z1 z2 z3 z4 z5 z6 z7 z8 z9
  ((with_reducible refine (cb _ p4 q4).mono ?_); rintro e w4 ⟨rfl, k3, rfl⟩)
  clear cb
  have hb2 := hb2.trans ((below_drewN _ W k3).mono hb2.size)
  by_cases e : body1 = body2
  rotate_left
  · have g : decide (body1 = body2) = false := decide_eq_false e
    rw [g]
    clear g
    go_wp2_with fail
    go_ret
    exact ⟨by simp [e], hb2⟩
  have E3 := Lib.hid e
  have g : decide (body1 = body2) = true := decide_eq_true e
  rw [g]
  clear g e
  go_wp2_with fail
  go_ret
  exact ⟨by simp [E0.out, E1.out, E2.out, E3.out], hb2⟩
end Go.Proofs.Ytnchgmemajmkjaa
