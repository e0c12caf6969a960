/- RtcpApart's walk. -/
import Derived.Test.YtnchgmemajmkjaaMq
namespace Go.Proofs.Ytnchgmemajmkjaa.RP
open Go.RowKit
set_option linter.unusedVariables false
set_option linter.unusedSimpArgs false
set_option maxRecDepth 20000

theorem add_str6 (x y : List UInt8) (p q : Operand) (h : x.length + y.length ≤ 9223372036854775807) (w : World) : (do eqGuard .add 9 p q (.string ⟨x.toArray⟩) (.string ⟨y.toArray⟩); binOp .add 9 (.string ⟨x.toArray⟩) (.string ⟨y.toArray⟩) : Sem Value).run Try.prog w = .ok (.string ⟨(x ++ y).toArray⟩) w := by
  have h1 := run_string_add_sum (P := Try.prog) w ⟨x.toArray⟩ ⟨y.toArray⟩ (by simpa [ByteArray.size] using h)
  simp [eqGuard, binOp, h1, ByteArray.mk_append_mk]
set_option maxHeartbeats 4000000 in
theorem rtcpApart_walk (A : Option Addr) (n c : Nat) (A' : Option Addr) (n' c' : Nat) (w : World) (h : RI w w.heap.size A n c) (hn : n ≤ 281474976710656) (h' : RI w w.heap.size A' n' c') (hn' : n' ≤ 281474976710656) :
    Calls Try.prog 7 #[.slice A n c, .slice A' n' c'] w (Yes w) := by
  have hT := tape_at6 h hn
  have b0 : Below w.heap.size w (w.alloc (.cells #[.slice A n c, .int .i64 0] 26)) := (Below.refl _ w).alloc (Nat.le_refl _) _
  clear h
  go_enter Try.func7, Try.ntmps7
  go_wp2_with fail
  refine (tape_report _ _ hT).mono ?_
  rintro e w1 ⟨x, rfl, hX, okX, _, hm⟩
  have b1 := b0.trans hm.below
  have h2' := h'.on6 b1
  have hT2 := tape_at6 h2' hn'
  have bt2 : Below w1.heap.size w1 (w1.alloc (.cells #[.slice A' n' c', .int .i64 0] 26)) := (Below.refl _ w1).alloc (Nat.le_refl _) _
  clear hT b0 hm h' h2'
  simp only [Rv.val, Rv.cells]
  go_wp2_with fail
  refine (tape_report _ _ hT2).mono ?_
  rintro e w2 ⟨y, rfl, hY, okY, _, hm⟩
  have bz := bt2.trans hm.below
  have b2 := b1.trans (bz.mono b1.size)
  have hX2 := hX.on bz
  clear hT2 bt2 hm bz b1 hX
  simp only [Rv.val, Rv.cells]
  go_upto_region 2 with (fail)
  have rdX := reads_of hX2 okX
  have rdY := reads_of hY okY
  have bx := (Below.refl _ w2).alloc (Nat.le_refl _) (.cells #[.int .i64 x.r.kind, .int .u32 (x.r.src : Int), .int .u32 (x.r.about : Int), .slice x.At x.r.tups.length x.ct, .slice x.Aa x.r.abouts.length x.ca, .slice x.An x.r.nums.length x.cn, .int .u64 (x.r.rate : Int), .int .i64 x.r.ty, .int .i64 x.r.count, .slice x.Ab x.r.body.length x.cb] 33)
  have s2 : (w2.alloc (.cells #[.int .i64 x.r.kind, .int .u32 (x.r.src : Int), .int .u32 (x.r.about : Int), .slice x.At x.r.tups.length x.ct, .slice x.Aa x.r.abouts.length x.ca, .slice x.An x.r.nums.length x.cn, .int .u64 (x.r.rate : Int), .int .i64 x.r.ty, .int .i64 x.r.count, .slice x.Ab x.r.body.length x.cb] 33)).heap.size = w2.heap.size + 1 := by simp
  have hP0 := Blk.new w2 33 #[.int .i64 x.r.kind, .int .u32 (x.r.src : Int), .int .u32 (x.r.about : Int), .slice x.At x.r.tups.length x.ct, .slice x.Aa x.r.abouts.length x.ca, .slice x.An x.r.nums.length x.cn, .int .u64 (x.r.rate : Int), .int .i64 x.r.ty, .int .i64 x.r.count, .slice x.Ab x.r.body.length x.cb]
  generalize w2.alloc (.cells #[.int .i64 x.r.kind, .int .u32 (x.r.src : Int), .int .u32 (x.r.about : Int), .slice x.At x.r.tups.length x.ct, .slice x.Aa x.r.abouts.length x.ca, .slice x.An x.r.nums.length x.cn, .int .u64 (x.r.rate : Int), .int .i64 x.r.ty, .int .i64 x.r.count, .slice x.Ab x.r.body.length x.cb] 33) = V2 at bx s2 hP0 ⊢
  have by_ := (Below.refl _ V2).alloc (Nat.le_refl _) (.cells #[.int .i64 y.r.kind, .int .u32 (y.r.src : Int), .int .u32 (y.r.about : Int), .slice y.At y.r.tups.length y.ct, .slice y.Aa y.r.abouts.length y.ca, .slice y.An y.r.nums.length y.cn, .int .u64 (y.r.rate : Int), .int .i64 y.r.ty, .int .i64 y.r.count, .slice y.Ab y.r.body.length y.cb] 33)
  have hQ := Blk.new V2 33 #[.int .i64 y.r.kind, .int .u32 (y.r.src : Int), .int .u32 (y.r.about : Int), .slice y.At y.r.tups.length y.ct, .slice y.Aa y.r.abouts.length y.ca, .slice y.An y.r.nums.length y.cn, .int .u64 (y.r.rate : Int), .int .i64 y.r.ty, .int .i64 y.r.count, .slice y.Ab y.r.body.length y.cb]
  have hP := hP0.alloc (.cells #[.int .i64 y.r.kind, .int .u32 (y.r.src : Int), .int .u32 (y.r.about : Int), .slice y.At y.r.tups.length y.ct, .slice y.Aa y.r.abouts.length y.ca, .slice y.An y.r.nums.length y.cn, .int .u64 (y.r.rate : Int), .int .i64 y.r.ty, .int .i64 y.r.count, .slice y.Ab y.r.body.length y.cb] 33)
  have b4 := b2.trans ((bx.trans (by_.mono bx.size)).mono b2.size)
  have hX4 := hX2.on (bx.trans (by_.mono bx.size))
  have hY4 := hY.on (bx.trans (by_.mono bx.size))
  rw [s2] at hQ
  clear bx by_ hP0 hX2 hY b2 s2
  generalize w2.heap.size = P at hP hQ ⊢
  generalize V2.alloc (.cells #[.int .i64 y.r.kind, .int .u32 (y.r.src : Int), .int .u32 (y.r.about : Int), .slice y.At y.r.tups.length y.ct, .slice y.Aa y.r.abouts.length y.ca, .slice y.An y.r.nums.length y.cn, .int .u64 (y.r.rate : Int), .int .i64 y.r.ty, .int .i64 y.r.count, .slice y.Ab y.r.body.length y.cb] 33) = V at hP hQ b4 hX4 hY4 ⊢
  obtain ⟨y0, y1, y2, y3, y4, y5, y6, y7, y8, y9⟩ := blk10 hP
  have bl := (Below.refl _ V).alloc (Nat.le_refl _) (.cells #[.int .i64 x.r.kind, .int .u32 (x.r.src : Int), .int .u32 (x.r.about : Int), .slice x.At x.r.tups.length x.ct, .slice x.Aa x.r.abouts.length x.ca, .slice x.An x.r.nums.length x.cn, .int .u64 (x.r.rate : Int), .int .i64 x.r.ty, .int .i64 x.r.count, .slice x.Ab x.r.body.length x.cb] 33)
  have hrr := rr_block (n := 1) (L := [x]) (Blk.new V 33 #[.int .i64 x.r.kind, .int .u32 (x.r.src : Int), .int .u32 (x.r.about : Int), .slice x.At x.r.tups.length x.ct, .slice x.Aa x.r.abouts.length x.ca, .slice x.An x.r.nums.length x.cn, .int .u64 (x.r.rate : Int), .int .i64 x.r.ty, .int .i64 x.r.count, .slice x.Ab x.r.body.length x.cb]) rfl rfl (fun z hz => by simp only [List.mem_cons, List.not_mem_nil, or_false] at hz; rcases hz with rfl <;> first | exact hX4.on bl)
  have q := rtcp_bytes _ _ _ _ _ hrr (by omega)
  replace q := q.mono fun e w' h => h.1 (ok_errs (l := [x].map Rv.r) (by simp) (by intro r hr; simp only [List.map_cons, List.map_nil, List.mem_cons, List.not_mem_nil, or_false] at hr; rcases hr with rfl <;> first | exact okX) (by simp))
  have hPl := hP.lt
  have hQl := hQ.lt
  replace hP := hP.below bl hPl
  replace hQ := hQ.below bl hQl
  replace hX4 := hX4.on bl
  replace hY4 := hY4.on bl
  have b4b := b4.trans (bl.mono b4.size)
  clear hrr bl b4
  go_wp2_with fail
  refine q.mono ?_
  rintro e w3 ⟨A3, n3, c3, rfl, r3, b5⟩
  clear q y0 y1 y2 y3 y4 y5 y6 y7 y8 y9
  go_upto_region 3 with (fail)
  have hPm := hP.lt
  have hQm := hQ.lt
  replace hP := hP.below b5 hPm
  replace hQ := hQ.below b5 hQm
  replace hX4 := hX4.on b5
  replace hY4 := hY4.on b5
  replace b5 := b4b.trans (b5.mono b4b.size)
  clear b4b hPl hQl hPm hQm
  obtain ⟨z0, z1, z2, z3, z4, z5, z6, z7, z8, z9⟩ := blk10 hQ
  have bl := (Below.refl _ w3).alloc (Nat.le_refl _) (.cells #[.int .i64 y.r.kind, .int .u32 (y.r.src : Int), .int .u32 (y.r.about : Int), .slice y.At y.r.tups.length y.ct, .slice y.Aa y.r.abouts.length y.ca, .slice y.An y.r.nums.length y.cn, .int .u64 (y.r.rate : Int), .int .i64 y.r.ty, .int .i64 y.r.count, .slice y.Ab y.r.body.length y.cb] 33)
  have hrr := rr_block (n := 1) (L := [y]) (Blk.new w3 33 #[.int .i64 y.r.kind, .int .u32 (y.r.src : Int), .int .u32 (y.r.about : Int), .slice y.At y.r.tups.length y.ct, .slice y.Aa y.r.abouts.length y.ca, .slice y.An y.r.nums.length y.cn, .int .u64 (y.r.rate : Int), .int .i64 y.r.ty, .int .i64 y.r.count, .slice y.Ab y.r.body.length y.cb]) rfl rfl (fun z hz => by simp only [List.mem_cons, List.not_mem_nil, or_false] at hz; rcases hz with rfl <;> first | exact hY4.on bl)
  have q := rtcp_bytes _ _ _ _ _ hrr (by omega)
  replace q := q.mono fun e w' h => h.1 (ok_errs (l := [y].map Rv.r) (by simp) (by intro r hr; simp only [List.map_cons, List.map_nil, List.mem_cons, List.not_mem_nil, or_false] at hr; rcases hr with rfl <;> first | exact okY) (by simp))
  have hPl := hP.lt
  have hQl := hQ.lt
  replace hP := hP.below bl hPl
  replace hQ := hQ.below bl hQl
  replace hX4 := hX4.on bl
  replace hY4 := hY4.on bl
  replace r3 := r3.on bl
  have b5b := b5.trans (bl.mono b5.size)
  clear hrr bl b5
  go_wp2_with fail
  refine q.mono ?_
  rintro e w4 ⟨A4, n4, c4, rfl, r4, b6⟩
  clear q z0 z1 z2 z3 z4 z5 z6 z7 z8 z9
  go_upto_region 4 with (fail)
  have hPm := hP.lt
  have hQm := hQ.lt
  replace hP := hP.below b6 hPm
  replace hQ := hQ.below b6 hQm
  replace hX4 := hX4.on b6
  replace hY4 := hY4.on b6
  replace r3 := r3.on b6
  replace b6 := b5b.trans (b6.mono b5b.size)
  clear b5b hPl hQl hPm hQm
  obtain ⟨y0, y1, y2, y3, y4, y5, y6, y7, y8, y9⟩ := blk10 hP
  obtain ⟨z0, z1, z2, z3, z4, z5, z6, z7, z8, z9⟩ := blk10 hQ
  have bl := (Below.refl _ w4).alloc (Nat.le_refl _) (.cells #[.int .i64 x.r.kind, .int .u32 (x.r.src : Int), .int .u32 (x.r.about : Int), .slice x.At x.r.tups.length x.ct, .slice x.Aa x.r.abouts.length x.ca, .slice x.An x.r.nums.length x.cn, .int .u64 (x.r.rate : Int), .int .i64 x.r.ty, .int .i64 x.r.count, .slice x.Ab x.r.body.length x.cb, .int .i64 y.r.kind, .int .u32 (y.r.src : Int), .int .u32 (y.r.about : Int), .slice y.At y.r.tups.length y.ct, .slice y.Aa y.r.abouts.length y.ca, .slice y.An y.r.nums.length y.cn, .int .u64 (y.r.rate : Int), .int .i64 y.r.ty, .int .i64 y.r.count, .slice y.Ab y.r.body.length y.cb] 33)
  have hrr := rr_block (n := 2) (L := [x, y]) (Blk.new w4 33 #[.int .i64 x.r.kind, .int .u32 (x.r.src : Int), .int .u32 (x.r.about : Int), .slice x.At x.r.tups.length x.ct, .slice x.Aa x.r.abouts.length x.ca, .slice x.An x.r.nums.length x.cn, .int .u64 (x.r.rate : Int), .int .i64 x.r.ty, .int .i64 x.r.count, .slice x.Ab x.r.body.length x.cb, .int .i64 y.r.kind, .int .u32 (y.r.src : Int), .int .u32 (y.r.about : Int), .slice y.At y.r.tups.length y.ct, .slice y.Aa y.r.abouts.length y.ca, .slice y.An y.r.nums.length y.cn, .int .u64 (y.r.rate : Int), .int .i64 y.r.ty, .int .i64 y.r.count, .slice y.Ab y.r.body.length y.cb]) rfl rfl (fun z hz => by simp only [List.mem_cons, List.not_mem_nil, or_false] at hz; rcases hz with rfl | rfl <;> first | exact hX4.on bl | exact hY4.on bl)
  have q := rtcp_bytes _ _ _ _ _ hrr (by omega)
  replace q := q.mono fun e w' h => h.1 (ok_errs (l := [x, y].map Rv.r) (by simp) (by intro r hr; simp only [List.map_cons, List.map_nil, List.mem_cons, List.not_mem_nil, or_false] at hr; rcases hr with rfl | rfl <;> first | exact okX | exact okY) (by simp))
  have hPl := hP.lt
  have hQl := hQ.lt
  replace hP := hP.below bl hPl
  replace hQ := hQ.below bl hQl
  replace hX4 := hX4.on bl
  replace hY4 := hY4.on bl
  replace r3 := r3.on bl
  replace r4 := r4.on bl
  have b6b := b6.trans (bl.mono b6.size)
  clear hrr bl b6
  go_wp2_with fail
  refine q.mono ?_
  rintro e w5 ⟨A5, n5, c5, rfl, r5, b7⟩
  clear q y0 y1 y2 y3 y4 y5 y6 y7 y8 y9 z0 z1 z2 z3 z4 z5 z6 z7 z8 z9
  go_upto_region 5 with (fail)
  have hPm := hP.lt
  have hQm := hQ.lt
  replace hP := hP.below b7 hPm
  replace hQ := hQ.below b7 hQm
  replace hX4 := hX4.on b7
  replace hY4 := hY4.on b7
  replace r3 := r3.on b7
  replace r4 := r4.on b7
  replace b7 := b6b.trans (b7.mono b6b.size)
  clear b6b hPl hQl hPm hQm
  have e1 : onesB ([x].map Rv.r) = x.r.one := by simp [onesB]
  have e2 : onesB ([y].map Rv.r) = y.r.one := by simp [onesB]
  have e3 : onesB ([x, y].map Rv.r) = x.r.one ++ y.r.one := by simp [onesB]
  rw [e1] at r3
  rw [e2] at r4
  rw [e3] at r5
  have hsX := okX.small
  have hsY := okY.small
  have hXe := okX.err
  have his := isB_one hXe []
  rw [List.append_nil] at his
  obtain ⟨D, hD⟩ : ∃ D, decide (x.r = y.r) = D := ⟨_, rfl⟩
  have hDb : (x.r.one == y.r.one) = D := by
    rw [← hD, Bool.eq_iff_iff, beq_iff_eq, decide_eq_true_eq]
    exact ⟨fun e => one_inj rdX rdY e, fun e => by rw [e]⟩
  have hS := fun W h1 h2 => ref6_Same x y W h1 h2
  rw [hD] at hS
  have hR := fun W h1 => rtcp_Right x W h1
  rw [hXe] at hR
  have hI := fun W h1 => rtcp_is A3 n3 c3 x.r.one W h1
  rw [his] at hI
  have hsum : x.r.one.length + y.r.one.length ≤ 9223372036854775807 := by omega
  clear e1 e2 e3 hsX hsY hXe his hD okX okY rdX rdY
  generalize x.r.one = LA at *
  generalize y.r.one = LB at *
  have hPl := hP.lt
  have hQl := hQ.lt
  refine wp_region_tbl [.val (.int .i64 0), .val (.bool true), .val (.bool true), .val (.int .i64 0), .val (.bool true), .val (.bool true), .val (.bool true), .val (.int .i64 0), .val (.bool true), .val (.bool true), .val (.bool true), .val (.slice A3 n3 c3), .val (.string ⟨(LA).toArray⟩), .val (.slice A4 n4 c4), .val (.string ⟨(LB).toArray⟩), .val (.bool D), .val (.agg #[.int .i64 x.r.kind, .int .u32 (x.r.src : Int), .int .u32 (x.r.about : Int), .slice x.At x.r.tups.length x.ct, .slice x.Aa x.r.abouts.length x.ca, .slice x.An x.r.nums.length x.cn, .int .u64 (x.r.rate : Int), .int .i64 x.r.ty, .int .i64 x.r.count, .slice x.Ab x.r.body.length x.cb]), .val (.agg #[.int .i64 y.r.kind, .int .u32 (y.r.src : Int), .int .u32 (y.r.about : Int), .slice y.At y.r.tups.length y.ct, .slice y.Aa y.r.abouts.length y.ca, .slice y.An y.r.nums.length y.cn, .int .u64 (y.r.rate : Int), .int .i64 y.r.ty, .int .i64 y.r.count, .slice y.Ab y.r.body.length y.cb]), .val (.bool D), .val (.bool true), .val (.bool true), .val (.bool true), .val (.slice A5 n5 c5), .val (.string ⟨(LA ++ LB).toArray⟩), .val (.slice A3 n3 c3), .val (.string ⟨(LA).toArray⟩), .val (.slice A4 n4 c4), .val (.string ⟨(LB).toArray⟩), .val (.string ⟨(LA ++ LB).toArray⟩), .val (.bool true), .val (.bool true), .val (.bool true), .val (.agg #[.int .i64 x.r.kind, .int .u32 (x.r.src : Int), .int .u32 (x.r.about : Int), .slice x.At x.r.tups.length x.ct, .slice x.Aa x.r.abouts.length x.ca, .slice x.An x.r.nums.length x.cn, .int .u64 (x.r.rate : Int), .int .i64 x.r.ty, .int .i64 x.r.count, .slice x.Ab x.r.body.length x.cb]), .val (.int .i64 0), .val (.bool true), .val (.bool true), .val (.bool true), .val (.slice A3 n3 c3), .val (.bool true), .val (.bool true), .val (.bool true), .val (.bool true), .val (.bool true), .val (.bool true)] (by kernel_rfl) (by kernel_rfl) (by kernel_rfl) (AllObl.all ⟨?_, ?_, ?_, ?_, ?_, ?_, ?_, ?_, ?_, ?_, ?_, ?_, ?_, ?_, ?_, ?_, ?_, ?_, ?_, ?_, ?_, ?_, ?_, ?_, ?_, ?_, ?_, ?_, ?_, ?_, ?_, ?_, ?_, ?_, ?_, ?_, ?_, ?_, ?_, ?_, ?_, ?_, ?_, ?_, trivial⟩) ?_
  · exact Obl.move trivial _ (Or.inl rfl) (by kernel_rfl)
  · exact Obl.bin trivial .eql _ (.tmp 40) (.const (.int .i64 0)) _ rfl (.int .i64 0) (.int .i64 0) (.bool true) (by kernel_rfl) (by kernel_rfl) (fun w => by simp [eqGuard, go_sem]) (by kernel_rfl)
  · exact Obl.move trivial _ (Or.inl rfl) (by kernel_rfl)
  · exact Obl.move ⟨by kernel_rfl, by kernel_rfl, by kernel_rfl⟩ _ (Or.inl rfl) (by kernel_rfl)
  · exact Obl.bin ⟨by kernel_rfl, by kernel_rfl, by kernel_rfl⟩ .eql _ (.tmp 43) (.const (.int .i64 0)) _ rfl (.int .i64 0) (.int .i64 0) (.bool true) (by kernel_rfl) (by kernel_rfl) (fun w => by simp [eqGuard, go_sem]) (by kernel_rfl)
  · exact Obl.pick trivial _ _ _ rfl true (by kernel_rfl) (by kernel_rfl)
  · exact Obl.move trivial _ (Or.inl rfl) (by kernel_rfl)
  · exact Obl.move ⟨by kernel_rfl, by kernel_rfl, by kernel_rfl⟩ _ (Or.inl rfl) (by kernel_rfl)
  · exact Obl.bin ⟨by kernel_rfl, by kernel_rfl, by kernel_rfl⟩ .eql _ (.tmp 47) (.const (.int .i64 0)) _ rfl (.int .i64 0) (.int .i64 0) (.bool true) (by kernel_rfl) (by kernel_rfl) (fun w => by simp [eqGuard, go_sem]) (by kernel_rfl)
  · exact Obl.pick trivial _ _ _ rfl true (by kernel_rfl) (by kernel_rfl)
  · exact Obl.move trivial _ (Or.inl rfl) (by kernel_rfl)
  · exact Obl.move ⟨by kernel_rfl, by kernel_rfl, by kernel_rfl⟩ _ (Or.inl rfl) (by kernel_rfl)
  · exact Obl.str (x := .tmp 51) ⟨by kernel_rfl, by kernel_rfl, by kernel_rfl⟩ 31 5 9 rfl Try.underlying31 Try.underlying5 Try.underlying9 (LA) (.inr ⟨A3, n3, c3, by kernel_rfl, r3⟩) (by kernel_rfl)
  · exact Obl.move ⟨by kernel_rfl, by kernel_rfl, by kernel_rfl⟩ _ (Or.inl rfl) (by kernel_rfl)
  · exact Obl.str (x := .tmp 53) ⟨by kernel_rfl, by kernel_rfl, by kernel_rfl⟩ 31 5 9 rfl Try.underlying31 Try.underlying5 Try.underlying9 (LB) (.inr ⟨A4, n4, c4, by kernel_rfl, r4⟩) (by kernel_rfl)
  · exact Obl.bin ⟨by kernel_rfl, by kernel_rfl, by kernel_rfl⟩ .eql _ (.tmp 52) (.tmp 54) _ rfl (.string ⟨(LA).toArray⟩) (.string ⟨(LB).toArray⟩) (.bool D) (by kernel_rfl) (by kernel_rfl) (eql_strs _ _ _ hDb _ _) (by kernel_rfl)
  · exact Obl.pure ⟨by kernel_rfl, by kernel_rfl, by kernel_rfl⟩ (.agg #[.int .i64 x.r.kind, .int .u32 (x.r.src : Int), .int .u32 (x.r.about : Int), .slice x.At x.r.tups.length x.ct, .slice x.Aa x.r.abouts.length x.ca, .slice x.An x.r.nums.length x.cn, .int .u64 (x.r.rate : Int), .int .i64 x.r.ty, .int .i64 x.r.count, .slice x.Ab x.r.body.length x.cb]) (by kernel_rfl) (fun ev w hb hx => by
      have e5 : ev (.tmp 5) = .pointer (some ⟨P, 0, none⟩) := holds_val (hx (.tmp 5)) (by kernel_rfl)
      obtain ⟨m0, m1, m2, m3, m4, m5, m6, m7, m8, m9⟩ := blk10 (hP.below ((drew_below _).trans hb) hPl); simp [execOp, e5, go_sem, m0, m1, m2, m3, m4, m5, m6, m7, m8, m9])
  · exact Obl.pure ⟨by kernel_rfl, by kernel_rfl, by kernel_rfl⟩ (.agg #[.int .i64 y.r.kind, .int .u32 (y.r.src : Int), .int .u32 (y.r.about : Int), .slice y.At y.r.tups.length y.ct, .slice y.Aa y.r.abouts.length y.ca, .slice y.An y.r.nums.length y.cn, .int .u64 (y.r.rate : Int), .int .i64 y.r.ty, .int .i64 y.r.count, .slice y.Ab y.r.body.length y.cb]) (by kernel_rfl) (fun ev w hb hx => by
      have e6 : ev (.tmp 6) = .pointer (some ⟨P + 1, 0, none⟩) := holds_val (hx (.tmp 6)) (by kernel_rfl)
      obtain ⟨m0, m1, m2, m3, m4, m5, m6, m7, m8, m9⟩ := blk10 (hQ.below ((drew_below _).trans hb) hQl); simp [execOp, e6, go_sem, m0, m1, m2, m3, m4, m5, m6, m7, m8, m9])
  · exact Obl.call ⟨by kernel_rfl, by kernel_rfl, by kernel_rfl⟩ 18 #[.tmp 56, .tmp 57] _ rfl Try.f18 Try.func18 (by kernel_rfl) (by kernel_rfl) (fun ev w hb hx => by
      have e56 : ev (.tmp 56) = .agg #[.int .i64 x.r.kind, .int .u32 (x.r.src : Int), .int .u32 (x.r.about : Int), .slice x.At x.r.tups.length x.ct, .slice x.Aa x.r.abouts.length x.ca, .slice x.An x.r.nums.length x.cn, .int .u64 (x.r.rate : Int), .int .i64 x.r.ty, .int .i64 x.r.count, .slice x.Ab x.r.body.length x.cb] := holds_val (hx (.tmp 56)) (by kernel_rfl)
      have e57 : ev (.tmp 57) = .agg #[.int .i64 y.r.kind, .int .u32 (y.r.src : Int), .int .u32 (y.r.about : Int), .slice y.At y.r.tups.length y.ct, .slice y.Aa y.r.abouts.length y.ca, .slice y.An y.r.nums.length y.cn, .int .u64 (y.r.rate : Int), .int .i64 y.r.ty, .int .i64 y.r.count, .slice y.Ab y.r.body.length y.cb] := holds_val (hx (.tmp 57)) (by kernel_rfl)
      simp only [List.map_toArray, List.map_cons, List.map_nil, e56, e57]
      exact (hS w (hX4.on ((drew_below _).trans hb)) (hY4.on ((drew_below _).trans hb))).mono fun _ _ hh => Val.holds (by kernel_rfl) hh)
  · exact Obl.bin ⟨by kernel_rfl, by kernel_rfl, by kernel_rfl⟩ .eql _ (.tmp 55) (.tmp 58) _ rfl (.bool D) (.bool D) (.bool true) (by kernel_rfl) (by kernel_rfl) (fun w => by simp [eqGuard, go_sem]) (by kernel_rfl)
  · exact Obl.pick trivial _ _ _ rfl true (by kernel_rfl) (by kernel_rfl)
  · exact Obl.move trivial _ (Or.inl rfl) (by kernel_rfl)
  · exact Obl.move ⟨by kernel_rfl, by kernel_rfl, by kernel_rfl⟩ _ (Or.inl rfl) (by kernel_rfl)
  · exact Obl.str (x := .tmp 62) ⟨by kernel_rfl, by kernel_rfl, by kernel_rfl⟩ 31 5 9 rfl Try.underlying31 Try.underlying5 Try.underlying9 (LA ++ LB) (.inr ⟨A5, n5, c5, by kernel_rfl, r5⟩) (by kernel_rfl)
  · exact Obl.move ⟨by kernel_rfl, by kernel_rfl, by kernel_rfl⟩ _ (Or.inl rfl) (by kernel_rfl)
  · exact Obl.str (x := .tmp 64) ⟨by kernel_rfl, by kernel_rfl, by kernel_rfl⟩ 31 5 9 rfl Try.underlying31 Try.underlying5 Try.underlying9 (LA) (.inr ⟨A3, n3, c3, by kernel_rfl, r3⟩) (by kernel_rfl)
  · exact Obl.move ⟨by kernel_rfl, by kernel_rfl, by kernel_rfl⟩ _ (Or.inl rfl) (by kernel_rfl)
  · exact Obl.str (x := .tmp 66) ⟨by kernel_rfl, by kernel_rfl, by kernel_rfl⟩ 31 5 9 rfl Try.underlying31 Try.underlying5 Try.underlying9 (LB) (.inr ⟨A4, n4, c4, by kernel_rfl, r4⟩) (by kernel_rfl)
  · exact Obl.bin ⟨by kernel_rfl, by kernel_rfl, by kernel_rfl⟩ .add _ (.tmp 65) (.tmp 67) _ rfl (.string ⟨(LA).toArray⟩) (.string ⟨(LB).toArray⟩) (.string ⟨(LA ++ LB).toArray⟩) (by kernel_rfl) (by kernel_rfl) (add_str6 _ _ _ _ hsum) (by kernel_rfl)
  · exact Obl.bin ⟨by kernel_rfl, by kernel_rfl, by kernel_rfl⟩ .eql _ (.tmp 63) (.tmp 68) _ rfl (.string ⟨(LA ++ LB).toArray⟩) (.string ⟨(LA ++ LB).toArray⟩) (.bool true) (by kernel_rfl) (by kernel_rfl) (eql_str _ _ _) (by kernel_rfl)
  · exact Obl.pick trivial _ _ _ rfl true (by kernel_rfl) (by kernel_rfl)
  · exact Obl.move trivial _ (Or.inl rfl) (by kernel_rfl)
  · exact Obl.pure ⟨by kernel_rfl, by kernel_rfl, by kernel_rfl⟩ (.agg #[.int .i64 x.r.kind, .int .u32 (x.r.src : Int), .int .u32 (x.r.about : Int), .slice x.At x.r.tups.length x.ct, .slice x.Aa x.r.abouts.length x.ca, .slice x.An x.r.nums.length x.cn, .int .u64 (x.r.rate : Int), .int .i64 x.r.ty, .int .i64 x.r.count, .slice x.Ab x.r.body.length x.cb]) (by kernel_rfl) (fun ev w hb hx => by
      have e5 : ev (.tmp 5) = .pointer (some ⟨P, 0, none⟩) := holds_val (hx (.tmp 5)) (by kernel_rfl)
      obtain ⟨m0, m1, m2, m3, m4, m5, m6, m7, m8, m9⟩ := blk10 (hP.below ((drew_below _).trans hb) hPl); simp [execOp, e5, go_sem, m0, m1, m2, m3, m4, m5, m6, m7, m8, m9])
  · exact Obl.call ⟨by kernel_rfl, by kernel_rfl, by kernel_rfl⟩ 23 #[.tmp 72] _ rfl Try.f23 Try.func23 (by kernel_rfl) (by kernel_rfl) (fun ev w hb hx => by
      have e72 : ev (.tmp 72) = .agg #[.int .i64 x.r.kind, .int .u32 (x.r.src : Int), .int .u32 (x.r.about : Int), .slice x.At x.r.tups.length x.ct, .slice x.Aa x.r.abouts.length x.ca, .slice x.An x.r.nums.length x.cn, .int .u64 (x.r.rate : Int), .int .i64 x.r.ty, .int .i64 x.r.count, .slice x.Ab x.r.body.length x.cb] := holds_val (hx (.tmp 72)) (by kernel_rfl)
      simp only [List.map_toArray, List.map_cons, List.map_nil, e72]
      exact (hR w (hX4.on ((drew_below _).trans hb))).mono fun _ _ hh => Val.holds (by kernel_rfl) hh)
  · exact Obl.bin ⟨by kernel_rfl, by kernel_rfl, by kernel_rfl⟩ .eql _ (.tmp 73) (.const (.int .i64 0)) _ rfl (.int .i64 0) (.int .i64 0) (.bool true) (by kernel_rfl) (by kernel_rfl) (fun w => by simp [eqGuard, go_sem]) (by kernel_rfl)
  · exact Obl.pick trivial _ _ _ rfl true (by kernel_rfl) (by kernel_rfl)
  · exact Obl.move trivial _ (Or.inl rfl) (by kernel_rfl)
  · exact Obl.move ⟨by kernel_rfl, by kernel_rfl, by kernel_rfl⟩ _ (Or.inl rfl) (by kernel_rfl)
  · exact Obl.call ⟨by kernel_rfl, by kernel_rfl, by kernel_rfl⟩ 24 #[.tmp 77] _ rfl Try.f24 Try.func24 (by kernel_rfl) (by kernel_rfl) (fun ev w hb hx => by
      have e77 : ev (.tmp 77) = .slice A3 n3 c3 := holds_val (hx (.tmp 77)) (by kernel_rfl)
      simp only [List.map_toArray, List.map_cons, List.map_nil, e77]
      exact ((hI w (r3.on ((drew_below _).trans hb))).mono fun _ _ hh => hh.ans).mono fun _ _ hh => Val.holds (by kernel_rfl) hh)
  · exact Obl.pick trivial _ _ _ rfl true (by kernel_rfl) (by kernel_rfl)
  · exact Obl.move trivial _ (Or.inl rfl) (by kernel_rfl)
  · exact Obl.call ⟨by kernel_rfl, by kernel_rfl, by kernel_rfl⟩ 15 #[] _ rfl Try.f15 Try.func15 (by kernel_rfl) (by kernel_rfl) (fun ev w hb hx => by
      simp only [List.map_toArray, List.map_nil]
      exact (known6 w).mono fun _ _ hh => Val.holds (by kernel_rfl) hh)
  · exact Obl.pick trivial _ _ _ rfl true (by kernel_rfl) (by kernel_rfl)
  · exact Obl.move trivial _ (Or.inr rfl) (by kernel_rfl)
  intro a w9 hb hsz hdf hold hv
  have h4 : a.tmps.getD 4 undef = .bool true := holds_val (hv 43 4 (by kernel_rfl)) (by kernel_rfl)
  obtain ⟨tm, df⟩ := a
  have hdf' : df = [] := hdf
  subst hdf'
  go_wp2
  go_ret
  exact ⟨congrArg _ h4, b7.drew.trans (hb.mono b7.size)⟩
end Go.Proofs.Ytnchgmemajmkjaa.RP
