/- RtcpBack's walk. -/
import Derived.Test.YtnchgmemajmkjaaMq
import Derived.Test.YtnchgmemajmkjaaMr
import Derived.Test.YtnchgmemajmkjaaMt
namespace Go.Proofs.Ytnchgmemajmkjaa.RP
open Go.RowKit
set_option linter.unusedVariables false
set_option linter.unusedSimpArgs false
set_option maxRecDepth 20000

theorem reads_len {r : Rep} (h : Reads r) : r.one.length % 4 = 0 ∧ 4 ≤ r.one.length := by
  obtain ⟨x0, x1, ws, h1, _⟩ := h
  rw [h1, hw_len]
  omega
theorem cut_two {a b : Rep} (ha : Reads a) (hb : Reads b) (hl : (a.one ++ b.one).length ≤ 1500) (k : Nat) (hk : k < (a.one ++ b.one).length) : rdReps ((a.one ++ b.one).take k) = if k = a.one.length then (0, [a]) else (13, []) := by
  have hla := reads_len ha
  rw [List.length_append] at hl hk
  rcases Nat.lt_or_ge k a.one.length with h | h
  · rw [if_neg (by omega), List.take_append_of_le_length (by omega)]
    rcases Nat.eq_zero_or_pos k with h0 | h0
    · subst h0
      rfl
    · have := rdReps_cut (L := []) (by simp) ha k h0 h (by simp [onesB]; omega)
      simpa [onesB] using this
  · by_cases he : k = a.one.length
    · subst he
      rw [if_pos rfl, List.take_append_of_le_length (Nat.le_refl _), List.take_of_length_le (Nat.le_refl _)]
      have := rdReps_ones (L := [a]) (by simp) (by simpa using ha) (by simp [onesB]; omega)
      simpa [onesB] using this
    · rw [if_neg he]
      have e : (a.one ++ b.one).take k = onesB [a] ++ b.one.take (k - a.one.length) := by
        rw [List.take_append, List.take_of_length_le (by omega)]
        simp [onesB]
      rw [e]
      exact rdReps_cut (L := [a]) (by simpa using ha) hb (k - a.one.length) (by omega) (by omega) (by simp [onesB]; omega)
theorem add0_6 (A : Option Addr) (c : Nat) : (if c = 0 then A else A.map (·.add 0)) = A := by
  split
  · rfl
  · cases A with
    | none => rfl
    | some a => simp [Addr.add]
theorem report_size : (Try.prog.info? 33).map (fun i => (i.zero, i.size, i.bytes)) = some (some (.agg #[.int .i64 0, .int .u32 0, .int .u32 0, .slice none 0 0, .slice none 0 0, .slice none 0 0, .int .u64 0, .int .i64 0, .int .i64 0, .slice none 0 0]), 10, 136) := report_info
theorem run_cut_hiR (w : World) (A : Option Addr) (n c k : Nat) (hk : k ≤ c) :
    (Instr.slice 36 (.slice A n c) none (some (.int .i64 (k : Int))) none).run Try.prog w = .ok (.slice A k c) w := by
  have hs : (Try.prog.elem 36) = 33 := by simp [Program.elem, Try.underlying36]
  have h3 := run_slice_h (P := Try.prog) w 36 A n c (by rw [hs]; exact Try.underlying36) .i64 (k : Nat) (by omega) (by omega)
  rw [hs] at h3
  obtain ⟨i0, hi0, hz0, hz1, hz2⟩ := info_parts report_size
  rw [h3]
  have e := add0_6 A c
  simp [sizeOf, typeInfo, hi0, hz1, sliced, Result.andThen, e]
theorem cut_h6 (A : Option Addr) (n c k : Nat) (h : k ≤ n) (h2 : n ≤ c) (w : World) : (Instr.sliceAt 31 (.slice A n c) none (some (.int .i64 (k : Nat))) none).run Try.prog w = .ok (.slice A k c) w := by
  have e := add0_6 A c
  have hs : (Try.prog.elem 31) = 5 := by simp [Program.elem, Try.underlying31]
  have h3 := run_slice_h (P := Try.prog) w 31 A n c (by rw [hs]; exact Try.underlying31) .i64 (k : Nat) (by omega) (by omega)
  rw [hs] at h3
  obtain ⟨i0, hi0, hz0, hz1, hz2⟩ := info_parts u8_info
  rw [run_sliceAt_slice w 31 _ _ _ _ (by rw [hs]; exact Try.underlying31), h3]
  simp [sizeOf, typeInfo, hi0, hz1, sliced, Result.andThen, e]
theorem rx_cut6 {w : World} {B n c size k : Nat} {A : Option Addr} {vs : List Value} (h : RX w B A n c size vs) (hk : k ≤ n) : RX w B A k c size (vs.take (k * size)) :=
  ⟨by rw [List.length_take, h.1]; exact Nat.min_eq_left (Nat.mul_le_mul_right _ hk), Nat.le_trans hk h.2.1, fun hn => by
    obtain ⟨b, off, e, hb, hc⟩ := h.2.2 (by omega)
    refine ⟨b, off, e, hb, fun j v hj => hc j v ?_⟩
    rw [List.getElem?_take] at hj
    split at hj
    · exact hj
    · cases hj⟩
theorem rr_first {w : World} {B n c : Nat} {A : Option Addr} {x : Rv} {L : List Rv} (h : RR w B A n c (x :: L)) : RR w B A 1 c [x] := by
  have hn : 1 ≤ n := by have := h.1; simp at this; omega
  have := rx_cut6 h.2.2 (k := 1) hn
  refine ⟨rfl, fun y hy => h.2.1 y (by rw [List.mem_singleton.1 hy]; simp), ?_⟩
  have e : (cellsR (x :: L)).take (1 * 10) = cellsR [x] := by
    show (x.cells ++ cellsR L).take 10 = x.cells ++ []
    rw [List.take_append_of_le_length (by rw [Rv.cells_len]; omega), List.append_nil]
    exact List.take_of_length_le (by rw [Rv.cells_len]; omega)
  rwa [e] at this
theorem rem_4 (n : Nat) (p q : Operand) (h : n % 4 = 0) (w : World) : (do eqGuard .rem 3 p q (.int .i64 (n : Int)) (.int .i64 4); binOp .rem 3 (.int .i64 (n : Int)) (.int .i64 4) : Sem Value).run Try.prog w = .ok (.int .i64 0) w := by
  have e : (n : Int).tmod 4 = 0 := by
    rw [Int.tmod_eq_emod_of_nonneg (by omega)]
    omega
  simp [eqGuard, go_sem, e]
theorem geq_no (a b : Nat) (p q : Operand) (h : a < b) (w : World) : (do eqGuard .geq 3 p q (.int .i64 (a : Int)) (.int .i64 (b : Int)); binOp .geq 3 (.int .i64 (a : Int)) (.int .i64 (b : Int)) : Sem Value).run Try.prog w = .ok (.bool false) w := by
  have e : decide ((b : Int) ≤ (a : Int)) = false := by simp; omega
  simp [eqGuard, go_sem]
  omega
set_option maxHeartbeats 4000000 in
theorem rtcpBack_walk (A : Option Addr) (n c : Nat) (cut : Int) (w : World) (h : RI w w.heap.size A n c) (hn : n ≤ 281474976710656) (hcut : I64 cut) :
    Calls Try.prog 5 #[.slice A n c, .int .i64 cut] w (Yes w) := by
  have hT := tape_at6 h hn
  have b0 : Below w.heap.size w (w.alloc (.cells #[.slice A n c, .int .i64 0] 26)) := (Below.refl _ w).alloc (Nat.le_refl _) _
  have hgs : w.heap.size < (w.alloc (.cells #[.slice A n c, .int .i64 0] 26)).heap.size := by simp
  clear h
  go_enter Try.func5, Try.ntmps5
  go_wp2_with fail
  refine (tape_report _ _ hT).mono ?_
  rintro e w1 ⟨x, rfl, hX, okX, lX, hm1⟩
  simp only [Rv.val, Rv.cells]
  go_wp2_with fail
  refine (tape_report _ _ hm1.tape).mono ?_
  rintro e w2 ⟨y, rfl, hY, okY, _, hm2⟩
  have b2 := b0.trans (hm1.below.trans hm2.below)
  have hX2 := hX.but (But.of_moves hm2) (fun ad had => by have := (lX ad had).1; omega)
  clear hT b0 hm1 hm2 hX lX hgs
  simp only [Rv.val, Rv.cells]
  have rdX := reads_of hX2 okX
  have rdY := reads_of hY okY
  go_upto_region 3 with (fail)
  have bl := (Below.refl _ w2).alloc (Nat.le_refl _) (.cells #[.int .i64 x.r.kind, .int .u32 (x.r.src : Int), .int .u32 (x.r.about : Int), .slice x.At x.r.tups.length x.ct, .slice x.Aa x.r.abouts.length x.ca, .slice x.An x.r.nums.length x.cn, .int .u64 (x.r.rate : Int), .int .i64 x.r.ty, .int .i64 x.r.count, .slice x.Ab x.r.body.length x.cb, .int .i64 y.r.kind, .int .u32 (y.r.src : Int), .int .u32 (y.r.about : Int), .slice y.At y.r.tups.length y.ct, .slice y.Aa y.r.abouts.length y.ca, .slice y.An y.r.nums.length y.cn, .int .u64 (y.r.rate : Int), .int .i64 y.r.ty, .int .i64 y.r.count, .slice y.Ab y.r.body.length y.cb] 33)
  have hrr := rr_block (n := 2) (L := [x, y]) (Blk.new w2 33 #[.int .i64 x.r.kind, .int .u32 (x.r.src : Int), .int .u32 (x.r.about : Int), .slice x.At x.r.tups.length x.ct, .slice x.Aa x.r.abouts.length x.ca, .slice x.An x.r.nums.length x.cn, .int .u64 (x.r.rate : Int), .int .i64 x.r.ty, .int .i64 x.r.count, .slice x.Ab x.r.body.length x.cb, .int .i64 y.r.kind, .int .u32 (y.r.src : Int), .int .u32 (y.r.about : Int), .slice y.At y.r.tups.length y.ct, .slice y.Aa y.r.abouts.length y.ca, .slice y.An y.r.nums.length y.cn, .int .u64 (y.r.rate : Int), .int .i64 y.r.ty, .int .i64 y.r.count, .slice y.Ab y.r.body.length y.cb]) rfl rfl (fun z hz => by simp only [List.mem_cons, List.not_mem_nil, or_false] at hz; rcases hz with rfl | rfl <;> first | exact hX2.on bl | exact hY.on bl)
  have b3 := b2.trans (bl.mono b2.size)
  clear bl hX2 hY b2
  generalize w2.alloc (.cells #[.int .i64 x.r.kind, .int .u32 (x.r.src : Int), .int .u32 (x.r.about : Int), .slice x.At x.r.tups.length x.ct, .slice x.Aa x.r.abouts.length x.ca, .slice x.An x.r.nums.length x.cn, .int .u64 (x.r.rate : Int), .int .i64 x.r.ty, .int .i64 x.r.count, .slice x.Ab x.r.body.length x.cb, .int .i64 y.r.kind, .int .u32 (y.r.src : Int), .int .u32 (y.r.about : Int), .slice y.At y.r.tups.length y.ct, .slice y.Aa y.r.abouts.length y.ca, .slice y.An y.r.nums.length y.cn, .int .u64 (y.r.rate : Int), .int .i64 y.r.ty, .int .i64 y.r.count, .slice y.Ab y.r.body.length y.cb] 33) = V at hrr b3 ⊢
  generalize w2.heap.size = P at hrr ⊢
  have hE2 := ok_errs (l := [x, y].map Rv.r) (by simp) (by intro r hr; simp only [List.map_cons, List.map_nil, List.mem_cons, List.not_mem_nil, or_false] at hr; rcases hr with rfl | rfl <;> first | exact okX | exact okY) (by simp)
  have hE1 := ok_errs (l := [x].map Rv.r) (by simp) (by intro r hr; simp only [List.map_cons, List.map_nil, List.mem_cons, List.not_mem_nil, or_false] at hr; rcases hr with rfl; exact okX) (by simp)
  have e2 : onesB ([x, y].map Rv.r) = x.r.one ++ y.r.one := by simp [onesB]
  have e1 : onesB ([x].map Rv.r) = x.r.one := by simp [onesB]
  have q := rtcp_bytes _ _ _ _ _ hrr (by omega)
  replace q := q.mono fun e w' h => h.1 hE2
  rw [e2] at q
  clear e2
  go_wp2_with fail
  refine q.mono ?_
  rintro e w3 ⟨A3, n3, c3, rfl, r3, b4⟩
  replace hrr := hrr.on b4
  replace b4 := b3.trans (b4.mono b3.size)
  have hl := r3.1
  have hsm : (x.r.one ++ y.r.one).length ≤ 120 := by have := okX.small; have := okY.small; rw [List.length_append]; omega
  have hrd2 : rdReps (x.r.one ++ y.r.one) = (0, [x.r, y.r]) := by
    have := rdReps_ones (L := [x.r, y.r]) (by simp) (by intro r hr; simp only [List.mem_cons, List.not_mem_nil, or_false] at hr; rcases hr with rfl | rfl <;> first | exact rdX | exact rdY) (by simp only [onesB, List.flatMap_cons, List.flatMap_nil, List.append_nil]; omega)
    simpa [onesB] using this
  have hc2 := fun k hk => cut_two rdX rdY (by omega) k hk
  have hlx := reads_len rdX
  have hly := reads_len rdY
  have hn3 : n3 = x.r.one.length + y.r.one.length := by rw [← hl, List.length_append]
  have h34 : n3 % 4 = 0 := by omega
  have h5n3 : x.r.one.length < n3 := by omega
  have hn120 : n3 ≤ 120 := by omega
  rw [hl] at hc2
  have HC2 := Lib.hid hc2
  have H34 := Lib.hid h34
  have HE1 := Lib.hid hE1
  have HO1 := Lib.hid e1
  have rq := rtcp_read A3 n3 c3 _ w3 r3 (by omega)
  unfold RdOut at rq
  rw [hrd2] at rq
  clear q b3 hl hsm hrd2 hc2 hlx hly hn3 h34 rdX rdY okX okY hE1 hE2 e1
  go_wp2_with fail
  refine rq.mono ?_
  rintro e w4 ⟨A4, n4, c4, L4, rfl, hL4, rr4, hn4, b5⟩
  clear rq
  replace hrr := hrr.on b5
  replace r3 := r3.on b5
  replace b5 := b4.trans (b5.mono b4.size)
  clear b4
  have hcutR := run_cut_hiR w4 (some ⟨P, 0, none⟩) 2 2 1 (by omega)
  go_wp2_with fail
  have q := rtcp_bytes _ _ _ _ w4 (rr_first hrr) (by omega)
  replace q := q.mono fun e w' h => h.1 HE1.out
  rw [HO1.out] at q
  refine q.mono ?_
  rintro e w5 ⟨A5, n5, c5, rfl, r5, b6⟩
  clear q hcutR HE1 HO1
  replace hrr := hrr.on b6
  replace r3 := r3.on b6
  replace rr4 := rr4.on b6
  replace b6 := b5.trans (b6.mono b5.size)
  clear b5
  go_upto_region 6 with (fail)
  have hn5 := r5.1
  rw [hn5] at HC2 h5n3
  clear hn5
  have hAll := fun W h1 h2 => ref6_All (some ⟨P, 0, none⟩) 2 2 [x, y] A4 n4 c4 L4 W h1 h2 (by omega) (by omega)
  rw [decide_eq_true (show [x, y].map Rv.r = L4.map Rv.r from hL4.symm)] at hAll
  have hrem := fun p q w => rem_4 n3 p q H34.out w
  have hgeq := fun p q w => geq_no n5 n3 p q h5n3 w
  have hc3 := r3.2.1
  have hcl : (x.r.one ++ y.r.one).take n5 = x.r.one := by
    rw [← r5.1, List.take_append_of_le_length (Nat.le_refl _), List.take_of_length_le (Nat.le_refl _)]
  have rp : R8 w5 w5.heap.size A3 n5 c3 x.r.one := by
    have := R8.take_ r3 n5 (Nat.le_of_lt h5n3)
    rwa [hcl] at this
  have hne6 : (x.r.one != x.r.one) = false := by simp
  clear hcl hL4 H34
  refine wp_region_tbl [.val (.int .i64 0), .val (.bool false), .val (.bool false), .val (.int .i64 0), .val (.bool false), .val (.bool false), .val (.bool false), .val (.int .i64 0), .val (.bool false), .val (.bool false), .val (.bool false), .val (.slice (some ⟨P, 0, none⟩) 2 2), .val (.slice A4 n4 c4), .val (.bool true), .val (.bool false), .val (.bool false), .val (.bool false), .val (.slice A3 n3 c3), .val (.int .i64 (n3 : Nat)), .val (.int .i64 0), .val (.bool false), .val (.bool false), .val (.bool false), .val (.slice A5 n5 c5), .val (.int .i64 (n5 : Nat)), .val (.slice A3 n3 c3), .val (.int .i64 (n3 : Nat)), .val (.bool false), .val (.bool false), .val (.bool false), .val (.slice A3 n3 c3), .val (.slice A5 n5 c5), .val (.int .i64 (n5 : Nat)), .val (.slice A3 n5 c3), .val (.string ⟨(x.r.one).toArray⟩), .val (.slice A5 n5 c5), .val (.string ⟨(x.r.one).toArray⟩), .val (.bool false), .val (.bool false)] (by kernel_rfl) (by kernel_rfl) (by kernel_rfl) (AllObl.all ⟨?_, ?_, ?_, ?_, ?_, ?_, ?_, ?_, ?_, ?_, ?_, ?_, ?_, ?_, ?_, ?_, ?_, ?_, ?_, ?_, ?_, ?_, ?_, ?_, ?_, ?_, ?_, ?_, ?_, ?_, ?_, ?_, ?_, ?_, ?_, ?_, ?_, ?_, ?_, trivial⟩) ?_
  · exact Obl.move trivial _ (Or.inl rfl) (by kernel_rfl)
  · exact Obl.bin trivial .neq _ (.tmp 40) (.const (.int .i64 0)) _ rfl (.int .i64 0) (.int .i64 0) (.bool false) (by kernel_rfl) (by kernel_rfl) (fun w => by simp [eqGuard, go_sem]) (by kernel_rfl)
  · exact Obl.move trivial _ (Or.inl rfl) (by kernel_rfl)
  · exact Obl.move ⟨by kernel_rfl, by kernel_rfl, by kernel_rfl⟩ _ (Or.inl rfl) (by kernel_rfl)
  · exact Obl.bin ⟨by kernel_rfl, by kernel_rfl, by kernel_rfl⟩ .neq _ (.tmp 43) (.const (.int .i64 0)) _ rfl (.int .i64 0) (.int .i64 0) (.bool false) (by kernel_rfl) (by kernel_rfl) (fun w => by simp [eqGuard, go_sem]) (by kernel_rfl)
  · exact Obl.pick trivial _ _ _ rfl false (by kernel_rfl) (by kernel_rfl)
  · exact Obl.move trivial _ (Or.inl rfl) (by kernel_rfl)
  · exact Obl.move ⟨by kernel_rfl, by kernel_rfl, by kernel_rfl⟩ _ (Or.inl rfl) (by kernel_rfl)
  · exact Obl.bin ⟨by kernel_rfl, by kernel_rfl, by kernel_rfl⟩ .neq _ (.tmp 47) (.const (.int .i64 0)) _ rfl (.int .i64 0) (.int .i64 0) (.bool false) (by kernel_rfl) (by kernel_rfl) (fun w => by simp [eqGuard, go_sem]) (by kernel_rfl)
  · exact Obl.pick trivial _ _ _ rfl false (by kernel_rfl) (by kernel_rfl)
  · exact Obl.move trivial _ (Or.inl rfl) (by kernel_rfl)
  · exact Obl.move ⟨by kernel_rfl, by kernel_rfl, by kernel_rfl⟩ _ (Or.inl rfl) (by kernel_rfl)
  · exact Obl.move ⟨by kernel_rfl, by kernel_rfl, by kernel_rfl⟩ _ (Or.inl rfl) (by kernel_rfl)
  · exact Obl.call ⟨by kernel_rfl, by kernel_rfl, by kernel_rfl⟩ 21 #[.tmp 51, .tmp 52] _ rfl Try.f21 Try.func21 (by kernel_rfl) (by kernel_rfl) (fun ev w hb hx => by
      have e51 : ev (.tmp 51) = .slice (some ⟨P, 0, none⟩) 2 2 := holds_val (hx (.tmp 51)) (by kernel_rfl)
      have e52 : ev (.tmp 52) = .slice A4 n4 c4 := holds_val (hx (.tmp 52)) (by kernel_rfl)
      simp only [List.map_toArray, List.map_cons, List.map_nil, e51, e52]
      exact (hAll w (hrr.on ((drew_below _).trans hb)) (rr4.on ((drew_below _).trans hb))).mono fun _ _ hh => Val.holds (by kernel_rfl) hh)
  · exact Obl.un ⟨by kernel_rfl, by kernel_rfl, by kernel_rfl⟩ .not _ (.tmp 53) rfl (.bool true) (.bool false) (by kernel_rfl) (fun w => by simp [go_sem]) (by kernel_rfl)
  · exact Obl.pick trivial _ _ _ rfl false (by kernel_rfl) (by kernel_rfl)
  · exact Obl.move trivial _ (Or.inl rfl) (by kernel_rfl)
  · exact Obl.move ⟨by kernel_rfl, by kernel_rfl, by kernel_rfl⟩ _ (Or.inl rfl) (by kernel_rfl)
  · exact Obl.lenV (x := (.tmp 57)) ⟨by kernel_rfl, by kernel_rfl, by kernel_rfl⟩ _ _ Try.underlying31 rfl (A3) (n3) (c3) (by kernel_rfl) (by kernel_rfl)
  · exact Obl.bin ⟨by kernel_rfl, by kernel_rfl, by kernel_rfl⟩ .rem _ (.tmp 58) (.const (.int .i64 4)) _ rfl (.int .i64 (n3 : Nat)) (.int .i64 4) (.int .i64 0) (by kernel_rfl) (by kernel_rfl) (hrem _ _) (by kernel_rfl)
  · exact Obl.bin ⟨by kernel_rfl, by kernel_rfl, by kernel_rfl⟩ .neq _ (.tmp 59) (.const (.int .i64 0)) _ rfl (.int .i64 0) (.int .i64 0) (.bool false) (by kernel_rfl) (by kernel_rfl) (fun w => by simp [eqGuard, go_sem]) (by kernel_rfl)
  · exact Obl.pick trivial _ _ _ rfl false (by kernel_rfl) (by kernel_rfl)
  · exact Obl.move trivial _ (Or.inl rfl) (by kernel_rfl)
  · exact Obl.move ⟨by kernel_rfl, by kernel_rfl, by kernel_rfl⟩ _ (Or.inl rfl) (by kernel_rfl)
  · exact Obl.lenV (x := (.tmp 63)) ⟨by kernel_rfl, by kernel_rfl, by kernel_rfl⟩ _ _ Try.underlying31 rfl (A5) (n5) (c5) (by kernel_rfl) (by kernel_rfl)
  · exact Obl.move ⟨by kernel_rfl, by kernel_rfl, by kernel_rfl⟩ _ (Or.inl rfl) (by kernel_rfl)
  · exact Obl.lenV (x := (.tmp 65)) ⟨by kernel_rfl, by kernel_rfl, by kernel_rfl⟩ _ _ Try.underlying31 rfl (A3) (n3) (c3) (by kernel_rfl) (by kernel_rfl)
  · exact Obl.bin ⟨by kernel_rfl, by kernel_rfl, by kernel_rfl⟩ .geq _ (.tmp 64) (.tmp 66) _ rfl (.int .i64 (n5 : Nat)) (.int .i64 (n3 : Nat)) (.bool false) (by kernel_rfl) (by kernel_rfl) (hgeq _ _) (by kernel_rfl)
  · exact Obl.pick trivial _ _ _ rfl false (by kernel_rfl) (by kernel_rfl)
  · exact Obl.move trivial _ (Or.inl rfl) (by kernel_rfl)
  · exact Obl.move ⟨by kernel_rfl, by kernel_rfl, by kernel_rfl⟩ _ (Or.inl rfl) (by kernel_rfl)
  · exact Obl.move ⟨by kernel_rfl, by kernel_rfl, by kernel_rfl⟩ _ (Or.inl rfl) (by kernel_rfl)
  · exact Obl.lenV (x := (.tmp 71)) ⟨by kernel_rfl, by kernel_rfl, by kernel_rfl⟩ _ _ Try.underlying31 rfl (A5) (n5) (c5) (by kernel_rfl) (by kernel_rfl)
  · exact Obl.cutH ⟨by kernel_rfl, by kernel_rfl, by kernel_rfl⟩ _ (.tmp 70) (.tmp 72) rfl (.slice A3 n3 c3) (.int .i64 (n5 : Nat)) (.slice A3 n5 c3) (by kernel_rfl) (by kernel_rfl) (cut_h6 _ _ _ _ (Nat.le_of_lt h5n3) hc3) (by kernel_rfl)
  · exact Obl.str (x := .tmp 73) ⟨by kernel_rfl, by kernel_rfl, by kernel_rfl⟩ 31 5 9 rfl Try.underlying31 Try.underlying5 Try.underlying9 (x.r.one) (.inr ⟨A3, n5, c3, by kernel_rfl, rp⟩) (by kernel_rfl)
  · exact Obl.move ⟨by kernel_rfl, by kernel_rfl, by kernel_rfl⟩ _ (Or.inl rfl) (by kernel_rfl)
  · exact Obl.str (x := .tmp 75) ⟨by kernel_rfl, by kernel_rfl, by kernel_rfl⟩ 31 5 9 rfl Try.underlying31 Try.underlying5 Try.underlying9 (x.r.one) (.inr ⟨A5, n5, c5, by kernel_rfl, r5⟩) (by kernel_rfl)
  · exact Obl.bin ⟨by kernel_rfl, by kernel_rfl, by kernel_rfl⟩ .neq _ (.tmp 74) (.tmp 76) _ rfl (.string ⟨(x.r.one).toArray⟩) (.string ⟨(x.r.one).toArray⟩) (.bool false) (by kernel_rfl) (by kernel_rfl) (neq_strs _ _ _ hne6 _ _) (by kernel_rfl)
  · exact Obl.pick trivial _ _ _ rfl false (by kernel_rfl) (by kernel_rfl)
  intro a WR hb hsz hdf hold hv
  have ha := act_puts [40, 41, 42, 43, 44, 45, 46, 47, 48, 49, 50, 51, 52, 53, 54, 55, 56, 57, 58, 59, 60, 61, 62, 63, 64, 65, 66, 67, 68, 69, 70, 71, 72, 73, 74, 75, 76, 77, 78] (by kernel_rfl) hsz hdf hold
  simp only [putAll] at ha
  have z78 : a.tmps.getD 78 undef = .bool false := holds_val (hv 38 78 (by kernel_rfl)) (by kernel_rfl)
  rw [z78] at ha
  generalize a.tmps.getD 40 undef = x40 at ha
  generalize a.tmps.getD 41 undef = x41 at ha
  generalize a.tmps.getD 42 undef = x42 at ha
  generalize a.tmps.getD 43 undef = x43 at ha
  generalize a.tmps.getD 44 undef = x44 at ha
  generalize a.tmps.getD 45 undef = x45 at ha
  generalize a.tmps.getD 46 undef = x46 at ha
  generalize a.tmps.getD 47 undef = x47 at ha
  generalize a.tmps.getD 48 undef = x48 at ha
  generalize a.tmps.getD 49 undef = x49 at ha
  generalize a.tmps.getD 50 undef = x50 at ha
  generalize a.tmps.getD 51 undef = x51 at ha
  generalize a.tmps.getD 52 undef = x52 at ha
  generalize a.tmps.getD 53 undef = x53 at ha
  generalize a.tmps.getD 54 undef = x54 at ha
  generalize a.tmps.getD 55 undef = x55 at ha
  generalize a.tmps.getD 56 undef = x56 at ha
  generalize a.tmps.getD 57 undef = x57 at ha
  generalize a.tmps.getD 58 undef = x58 at ha
  generalize a.tmps.getD 59 undef = x59 at ha
  generalize a.tmps.getD 60 undef = x60 at ha
  generalize a.tmps.getD 61 undef = x61 at ha
  generalize a.tmps.getD 62 undef = x62 at ha
  generalize a.tmps.getD 63 undef = x63 at ha
  generalize a.tmps.getD 64 undef = x64 at ha
  generalize a.tmps.getD 65 undef = x65 at ha
  generalize a.tmps.getD 66 undef = x66 at ha
  generalize a.tmps.getD 67 undef = x67 at ha
  generalize a.tmps.getD 68 undef = x68 at ha
  generalize a.tmps.getD 69 undef = x69 at ha
  generalize a.tmps.getD 70 undef = x70 at ha
  generalize a.tmps.getD 71 undef = x71 at ha
  generalize a.tmps.getD 72 undef = x72 at ha
  generalize a.tmps.getD 73 undef = x73 at ha
  generalize a.tmps.getD 74 undef = x74 at ha
  generalize a.tmps.getD 75 undef = x75 at ha
  generalize a.tmps.getD 76 undef = x76 at ha
  generalize a.tmps.getD 77 undef = x77 at ha
  clear hv hold hsz hdf z78
  subst ha
  simp only [Act.put, List.setIfInBounds_toArray, List.set_cons_succ, List.set_cons_zero]
  have b7 := b6.trans (((drew_below _).trans hb).mono b6.size)
  replace r3 := r3.on ((drew_below _).trans hb)
  clear hb b6 r5 rr4 hrr hAll hrem hgeq rp hne6
  obtain ⟨k, hk0, hk1, _, hwi⟩ := within_ex cut 0 ((n3 : Int) - 1) hcut (by omega) (by omega) (by omega)
  obtain ⟨k, rfl⟩ := Int.eq_ofNat_of_zero_le hk0
  have hkn : k < n3 := by omega
  have HK1 := Lib.hid hk1
  clear hk1 hk0
  go_wp2_with fail
  refine (hwi _).mono ?_
  rintro e w' ⟨rfl, hw'⟩
  obtain rfl := hw'.symm
  clear hwi
  have hcutk := run_cut_hi WR A3 n3 c3 k (by omega)
  have rk := rtcp_read A3 k c3 _ WR (r3.take_ k (by omega)) (by omega)
  unfold RdOut at rk
  rw [HC2.out k hkn] at rk
  clear HC2 r3
  by_cases hk5 : k = n5
  · have g5 : ((k : Int) == (n5 : Int)) = true := by simp; omega
    rw [if_pos hk5] at rk
    clear hk5
    go_wp2_with fail
    refine rk.mono ?_
    rintro e w8 ⟨A8, n8, c8, L8, rfl, hL8, r8, hn8, b8⟩
    have h8 : n8 = 1 := by rw [← r8.1, ← List.length_map (f := Rv.r), hL8]; rfl
    subst h8
    replace b8 := b7.trans (b8.mono b7.size)
    clear rk hL8 r8 hcutk b7
    go_wp2_with fail
    refine (known6 _).mono ?_
    rintro e w9 ⟨rfl, b9⟩
    replace b9 := b8.trans (b9.mono b8.size)
    clear b8
    go_wp2_with fail
    go_ret
    exact ⟨rfl, b9⟩
  · have g5 : ((k : Int) == (n5 : Int)) = false := by simp; omega
    rw [if_neg hk5] at rk
    clear hk5
    go_wp2_with fail
    refine rk.mono ?_
    rintro e w8 ⟨A8, n8, c8, L8, rfl, hL8, r8, hn8, b8⟩
    have h8 : n8 = 0 := by rw [← r8.1, ← List.length_map (f := Rv.r), hL8]; rfl
    subst h8
    replace b8 := b7.trans (b8.mono b7.size)
    clear rk hL8 r8 hcutk b7
    go_wp2_with fail
    refine (known6 _).mono ?_
    rintro e w9 ⟨rfl, b9⟩
    replace b9 := b8.trans (b9.mono b8.size)
    clear b8
    go_wp2_with fail
    go_ret
    exact ⟨rfl, b9⟩
end Go.Proofs.Ytnchgmemajmkjaa.RP
