/- RtcpNumbers' walk. -/
import Derived.Test.YtnchgmemajmkjaaMo
import Derived.Test.YtnchgmemajmkjaaMg
namespace Go.Proofs.Ytnchgmemajmkjaa.RP
open Go.RowKit
set_option linter.unusedVariables false
set_option linter.unusedSimpArgs false
set_option maxRecDepth 20000

theorem u8_some6 (z : Int) : ∃ b : UInt8, IntKind.u8.wrap z = (b.toNat : Int) := by
  refine ⟨UInt8.ofNat (IntKind.u8.wrap z).toNat, ?_⟩
  have h := IntKind.wrap_u8 z
  rw [UInt8.toNat_ofNat']
  omega
def numsN : Array Value := #[.int .i64 (-1), .int .i64 0, .int .i64 1, .int .i64 3, .int .i64 6, .int .i64 7, .int .i64 31, .int .i64 32, .int .i64 191, .int .i64 192, .int .i64 205, .int .i64 206, .int .i64 223, .int .i64 224, .int .i64 255, .int .i64 256, .int .i64 511, .int .i64 512, .int .i64 131072, .int .i64 131073, .int .i64 1099511627776]
theorem numsN_at : ∀ i : Nat, i < 21 → ∃ x : Int, I64 x ∧ numsN[i]? = some (.int .i64 x) := by
  intro i hi
  have h : i = 0 ∨ i = 1 ∨ i = 2 ∨ i = 3 ∨ i = 4 ∨ i = 5 ∨ i = 6 ∨ i = 7 ∨ i = 8 ∨ i = 9 ∨ i = 10 ∨ i = 11 ∨ i = 12 ∨ i = 13 ∨ i = 14 ∨ i = 15 ∨ i = 16 ∨ i = 17 ∨ i = 18 ∨ i = 19 ∨ i = 20 := by omega
  rcases h with rfl | rfl | rfl | rfl | rfl | rfl | rfl | rfl | rfl | rfl | rfl | rfl | rfl | rfl | rfl | rfl | rfl | rfl | rfl | rfl | rfl
  · exact ⟨-1, by unfold I64; omega, rfl⟩
  · exact ⟨0, by unfold I64; omega, rfl⟩
  · exact ⟨1, by unfold I64; omega, rfl⟩
  · exact ⟨3, by unfold I64; omega, rfl⟩
  · exact ⟨6, by unfold I64; omega, rfl⟩
  · exact ⟨7, by unfold I64; omega, rfl⟩
  · exact ⟨31, by unfold I64; omega, rfl⟩
  · exact ⟨32, by unfold I64; omega, rfl⟩
  · exact ⟨191, by unfold I64; omega, rfl⟩
  · exact ⟨192, by unfold I64; omega, rfl⟩
  · exact ⟨205, by unfold I64; omega, rfl⟩
  · exact ⟨206, by unfold I64; omega, rfl⟩
  · exact ⟨223, by unfold I64; omega, rfl⟩
  · exact ⟨224, by unfold I64; omega, rfl⟩
  · exact ⟨255, by unfold I64; omega, rfl⟩
  · exact ⟨256, by unfold I64; omega, rfl⟩
  · exact ⟨511, by unfold I64; omega, rfl⟩
  · exact ⟨512, by unfold I64; omega, rfl⟩
  · exact ⟨131072, by unfold I64; omega, rfl⟩
  · exact ⟨131073, by unfold I64; omega, rfl⟩
  · exact ⟨1099511627776, by unfold I64; omega, rfl⟩
theorem run_append_none6 (w : World) (base : Nat) (v : Value) (l : List UInt8) (hown : Own8 w base v l) (ty : TypeId) : (Builtin.append_ #[31, 3] ty #[v, .int .i64 ((0 : Nat) : Int)]).run Try.prog w = .ok v w := by
  obtain ⟨i0, hi0, hz0, hz1, hz2⟩ := info_parts u8_info
  have hw : IntKind.i64.wrap 0 = 0 := by decide
  rcases hown.2 with ⟨rfl, h0⟩ | ⟨g, cap, cur, rfl, _, _, hnc, _⟩
  · simp [Builtin.append_, run_underlying Try.underlying31, run_underlying Try.underlying3, sizeOf, typeInfo, hi0, asInt, asIntOf, hw, h0, storeCells]
  · simp [Builtin.append_, run_underlying Try.underlying31, run_underlying Try.underlying3, sizeOf, typeInfo, hi0, asInt, asIntOf, hw, hnc, storeCells]
theorem wpList_append_zerosN6 {w : World} {ops : Array Oper} {rest : List Oper} {o : Oper} {a : Act} {Q : Exit → Act → World → Prop} (hgd : o.guard = none) (s x : Operand)
    (ho : o.op = .call { callee := .builtin .append, args := #[s, x], argTypes := #[31, 3] })
    (base : Nat) (v : Value) (l : List UInt8) (hs : a.eval s = v) (hown : Own8 w base v l) (k : Nat) (hx : a.eval x = .int .i64 (k : Int)) (hk : l.length + k ≤ 1000000) (hbase : base ≤ w.heap.size)
    (h : ∀ v' w', App8 w base v (l ++ List.replicate k 0) v' w' → wpList Try.prog ops Q rest (a.put o.dst v') w') : wpList Try.prog ops Q (o :: rest) a w := by
  rcases Nat.eq_zero_or_pos k with h0 | h0
  · subst h0
    refine wpList_plain hgd fun K hK => ?_
    have hrun := run_append_none6 w base v l hown o.type
    unfold Oper.wp execOp
    simp only [ho, resolve, invoke, builtin, Sem.run_bind, Sem.run_pure, Result.andThen_ok, List.map_toArray, List.map_cons, List.map_nil, hs, hx, hrun]
    exact hK _ _ (h v w ⟨by rw [List.replicate_zero, List.append_nil]; exact hown, World.grownBy.refl w _, .inl rfl⟩)
  · exact wpList_append_zeros8 hgd s x ho base v l hs hown k hx h0 hk hbase h
theorem new8_at6 (W : World) (n g : Nat) (hg : g = W.heap.size) : R8 (W.alloc (.cells (zl n).toArray 5)) (W.alloc (.cells (zl n).toArray 5)).heap.size (some ⟨g, 0, none⟩) n n (List.replicate n 0) := by
  subst hg
  have hB : Blk (W.alloc (.cells (zl n).toArray 5)) W.heap.size 5 ((List.replicate n (0 : UInt8)).map bv).toArray := by
    have e : (List.replicate n (0 : UInt8)).map bv = zl n := by simp [zl, bv]
    rw [e]
    exact Blk.new _ _ _
  exact hB.r8 (by simp) (Nat.le_refl _)
theorem own8_four6 (w : World) (base : Nat) (a b c d : UInt8) (cs : Array Value) (h : ([a, b, c, d].map bv).toArray = cs) (hb : base ≤ w.heap.size) : Own8 (w.alloc (.cells cs 5)) base (.slice (some ⟨w.heap.size, 0, none⟩) 4 4) [a, b, c, d] := by
  subst h
  exact ⟨rfl, .inr ⟨w.heap.size, 4, ([a, b, c, d].map bv).toArray, rfl, hb, Blk.new _ _ _, Nat.le_refl _, by decide, rfl, rfl⟩⟩
/-- The four bytes of a head. -/
theorem head_cells (y : UInt8) (t n : Nat) (ht : t < 256) (hn : n < 256) : ([y, UInt8.ofNat t, 0, UInt8.ofNat n].map bv).toArray = #[Value.int .u8 (y.toNat : Int), .int .u8 (t : Int), .int .u8 0, .int .u8 (n : Int)] := by
  have e1 : (UInt8.ofNat t).toNat = t := by rw [UInt8.toNat_ofNat']; omega
  have e2 : (UInt8.ofNat n).toNat = n := by rw [UInt8.toNat_ofNat']; omega
  simp [bv, e1, e2]
set_option maxRecDepth 100000 in
set_option maxHeartbeats 4000000 in
theorem rtcpNumbers_walk (w : World) : Calls Try.prog 3 #[] w (Yes w) := by
  go_enter Try.func3, Try.ntmps3
  go_wp2_with fail
  go_loopw [1] (fun i wr => ∃ k : Nat, k ≤ 60 ∧ i = .int .i64 (k : Int) ∧ Below w.heap.size w wr) (fun i _ => 60 - (intOf i).toNat)
  case atStart => exact ⟨0, by omega, rfl, Below.refl _ _⟩
  case round =>
    obtain ⟨k, hk, rfl, hb⟩ := hrel
    by_cases hlt : k < 60
    rotate_left
    · have g3 : ¬ (k : Int) < 60 := by omega
      go_wp2_with fail
      go_loopw [12] (fun i wr => ∃ t : Nat, 190 ≤ t ∧ t ≤ 226 ∧ i = .int .i64 (t : Int) ∧ Below w.heap.size w wr) (fun i _ => 226 - (intOf i).toNat)
      case atStart => exact ⟨190, by omega, by omega, rfl, hb⟩
      case round =>
        clear hb g3 hk hlt
        obtain ⟨t, ht0, ht1, rfl, hb⟩ := hrel
        by_cases hlt : t < 226
        · have g3 : (t : Int) < 226 := by omega
          go_wp2_with fail
          go_loopw [13] (fun i wr => ∃ c : Nat, c ≤ 32 ∧ i = .int .i64 (c : Int) ∧ Below w.heap.size w wr) (fun i _ => 32 - (intOf i).toNat)
          case atStart => exact ⟨0, by omega, rfl, hb⟩
          case round =>
            clear hb
            obtain ⟨c, hc, rfl, hb⟩ := hrel
            by_cases hltc : c < 32
            · have g4 : (c : Int) < 32 := by omega
              go_wp2_with fail
              go_loopw [14] (fun i wr => ∃ n : Nat, n ≤ 6 ∧ i = .int .i64 (n : Int) ∧ Below w.heap.size w wr) (fun i _ => 6 - (intOf i).toNat)
              case atStart => exact ⟨0, by omega, rfl, hb⟩
              case round =>
                clear hb
                obtain ⟨n, hn, rfl, hb⟩ := hrel
                by_cases hltn : n < 6
                · have g5 : (n : Int) < 6 := by omega
                  obtain ⟨y, hy⟩ := u8_some6 (bits BinOp.or .i64 128 (c : Int))
                  have g6 : IntKind.u8.wrap (t : Int) = (t : Int) := by rw [IntKind.wrap_u8]; omega
                  have g7 : IntKind.u8.wrap (n : Int) = (n : Int) := by rw [IntKind.wrap_u8]; omega
                  have o4 := own8_four6 wr wr.heap.size y (UInt8.ofNat t) 0 (UInt8.ofNat n) _ (head_cells y t n (by omega) (by omega)) (Nat.le_refl _)
                  have H4 := Lib.hid (show 4 * (n : Int) = ((4 * n : Nat) : Int) by omega)
                  have HL := Lib.hid (show [y, UInt8.ofNat t, 0, UInt8.ofNat n].length + 4 * n ≤ 1000000 by simp; omega)
                  have O4 := Lib.hid o4
                  clear o4
                  go_wp2_with (at_builtin; (go_loud (with_reducible refine wpList_append_zerosN6 rfl (.tmp 124) (.tmp 126) rfl wr.heap.size _ _ (by with_unfolding_all rfl) O4.out (4 * n) (by with_unfolding_all exact congrArg _ H4.out) HL.out (by simp) ?_)); intro v5 w5 ha5)
                  have bz := ha5.below ((Below.refl wr.heap.size wr).alloc (Nat.le_refl _) _) (by simp) O4.out (Nat.le_refl _)
                  obtain ⟨A5, c5, rfl, r5⟩ := ha5.1.r8
                  have hl5 : ([y, UInt8.ofNat t, 0, UInt8.ofNat n] ++ List.replicate (4 * n) (0 : UInt8)).length ≤ 100 := by simp; omega
                  generalize [y, UInt8.ofNat t, 0, UInt8.ofNat n] ++ List.replicate (4 * n) (0 : UInt8) = l5 at r5 hl5
                  have b5 := hb.trans (bz.mono hb.size)
                  clear ha5 hb hy
                  refine (law6_reads _ _ _ _ _ r5 (by omega)).mono ?_
                  rintro e w6 ⟨rfl, b6⟩
                  have b7 := b5.trans (b6.mono b5.size)
                  clear b6 b5 r5 bz
                  go_wp2_with fail
                  go_roundw
                  case rel => exact ⟨n + 1, by omega, by go_num, b7⟩
                  case measure => simp [intOf]; omega
                · have g5 : ¬ (n : Int) < 6 := by omega
                  go_wp2_with fail
                  go_roundw
                  case rel => exact ⟨c + 1, by omega, by go_num, hb⟩
                  case measure => simp [intOf]; omega
            · have g4 : ¬ (c : Int) < 32 := by omega
              go_wp2_with fail
              go_roundw
              case rel => exact ⟨t + 1, by omega, by omega, by go_num, hb⟩
              case measure => simp [intOf]; omega
        · have g3 : ¬ (t : Int) < 226 := by omega
          have hmk : ∀ W : World, (Instr.makeSlice 31 (.int .i64 1504) (.int .i64 1504)).run Try.prog W = .ok (.slice (some ⟨W.heap.size, 0, none⟩) 1504 1504) (W.alloc (.cells (zl 1504).toArray 5)) := fun W => run_make8 1504 (by omega) W
          go_wp2_with fail
          have bz := (Below.refl _ wr).alloc (Nat.le_refl _) (.cells (zl 1504).toArray 5)
          have b1 := hb.trans (bz.mono hb.size)
          refine (law6_reads _ _ _ _ _ (new8_at6 wr 1504 wr.heap.size rfl) (by omega)).mono ?_
          rintro e w5 ⟨rfl, b5⟩
          have b2 := b1.trans (b5.mono b1.size)
          clear b5 bz b1 hb hmk
          go_wp2_with fail
          refine (law6_same none 0 0 [] w5 (RR.nil _ _ _ _) (by omega)).mono ?_
          rintro e w7 ⟨rfl, b7⟩
          have b4 := b2.trans (b7.mono b2.size)
          clear b7 b2
          go_wp2_with fail
          refine (known6 _).mono ?_
          rintro e w8 ⟨rfl, b8⟩
          have b5 := b4.trans (b8.mono b4.size)
          clear b8 b4
          go_wp2_with fail
          go_ret
          exact ⟨rfl, b5⟩
    · have g3 : (k : Int) < 60 := by omega
      go_wp2_with fail
      refine (law_tape6 k hk _).mono ?_
      rintro e w1 ⟨A, c, rfl, hr, bz⟩
      have b1 := hb.trans (bz.mono hb.size)
      have hT := tape_at6 hr (by omega)
      have bt := (Below.refl _ w1).alloc (Nat.le_refl _) (.cells #[.slice A 400 c, .int .i64 0] 26)
      have hgs : w1.heap.size < (w1.alloc (.cells #[.slice A 400 c, .int .i64 0] 26)).heap.size := by simp
      clear bz hr hb
      go_wp2_with fail
      refine (tape_report _ _ hT).mono ?_
      rintro e w2 ⟨x, rfl, hX, okX, lX, hm1⟩
      simp only [Rv.val, Rv.cells]
      go_wp2_with fail
      refine (tape_report _ _ hm1.tape).mono ?_
      rintro e w3 ⟨y, rfl, hY, okY, _, hm2⟩
      simp only [Rv.val, Rv.cells]
      have bz := bt.trans (hm1.below.trans hm2.below)
      have b3 := b1.trans (bz.mono b1.size)
      have hX3 := hX.but (But.of_moves hm2) (fun ad had => by have := (lX ad had).1; omega)
      clear hT hm1 hm2 lX bt bz b1 hX hgs
      go_upto_region 6 with (fail)
      have bx := (Below.refl _ w3).alloc (Nat.le_refl _) (.cells #[.int .i64 x.r.kind, .int .u32 (x.r.src : Int), .int .u32 (x.r.about : Int), .slice x.At x.r.tups.length x.ct, .slice x.Aa x.r.abouts.length x.ca, .slice x.An x.r.nums.length x.cn, .int .u64 (x.r.rate : Int), .int .i64 x.r.ty, .int .i64 x.r.count, .slice x.Ab x.r.body.length x.cb] 33)
      have s2 : (w3.alloc (.cells #[.int .i64 x.r.kind, .int .u32 (x.r.src : Int), .int .u32 (x.r.about : Int), .slice x.At x.r.tups.length x.ct, .slice x.Aa x.r.abouts.length x.ca, .slice x.An x.r.nums.length x.cn, .int .u64 (x.r.rate : Int), .int .i64 x.r.ty, .int .i64 x.r.count, .slice x.Ab x.r.body.length x.cb] 33)).heap.size = w3.heap.size + 1 := by simp
      have hP0 := Blk.new w3 33 #[.int .i64 x.r.kind, .int .u32 (x.r.src : Int), .int .u32 (x.r.about : Int), .slice x.At x.r.tups.length x.ct, .slice x.Aa x.r.abouts.length x.ca, .slice x.An x.r.nums.length x.cn, .int .u64 (x.r.rate : Int), .int .i64 x.r.ty, .int .i64 x.r.count, .slice x.Ab x.r.body.length x.cb]
      generalize w3.alloc (.cells #[.int .i64 x.r.kind, .int .u32 (x.r.src : Int), .int .u32 (x.r.about : Int), .slice x.At x.r.tups.length x.ct, .slice x.Aa x.r.abouts.length x.ca, .slice x.An x.r.nums.length x.cn, .int .u64 (x.r.rate : Int), .int .i64 x.r.ty, .int .i64 x.r.count, .slice x.Ab x.r.body.length x.cb] 33) = V2 at bx s2 hP0 ⊢
      have by_ := (Below.refl _ V2).alloc (Nat.le_refl _) (.cells #[.int .i64 y.r.kind, .int .u32 (y.r.src : Int), .int .u32 (y.r.about : Int), .slice y.At y.r.tups.length y.ct, .slice y.Aa y.r.abouts.length y.ca, .slice y.An y.r.nums.length y.cn, .int .u64 (y.r.rate : Int), .int .i64 y.r.ty, .int .i64 y.r.count, .slice y.Ab y.r.body.length y.cb] 33)
      have hQ := Blk.new V2 33 #[.int .i64 y.r.kind, .int .u32 (y.r.src : Int), .int .u32 (y.r.about : Int), .slice y.At y.r.tups.length y.ct, .slice y.Aa y.r.abouts.length y.ca, .slice y.An y.r.nums.length y.cn, .int .u64 (y.r.rate : Int), .int .i64 y.r.ty, .int .i64 y.r.count, .slice y.Ab y.r.body.length y.cb]
      have hP := hP0.alloc (.cells #[.int .i64 y.r.kind, .int .u32 (y.r.src : Int), .int .u32 (y.r.about : Int), .slice y.At y.r.tups.length y.ct, .slice y.Aa y.r.abouts.length y.ca, .slice y.An y.r.nums.length y.cn, .int .u64 (y.r.rate : Int), .int .i64 y.r.ty, .int .i64 y.r.count, .slice y.Ab y.r.body.length y.cb] 33)
      have b4 := b3.trans ((bx.trans (by_.mono bx.size)).mono b3.size)
      have hX4 := hX3.on (bx.trans (by_.mono bx.size))
      have hY4 := hY.on (bx.trans (by_.mono bx.size))
      rw [s2] at hQ
      clear bx by_ hP0 hX3 hY b3 s2
      generalize w3.heap.size = P at hP hQ ⊢
      generalize V2.alloc (.cells #[.int .i64 y.r.kind, .int .u32 (y.r.src : Int), .int .u32 (y.r.about : Int), .slice y.At y.r.tups.length y.ct, .slice y.Aa y.r.abouts.length y.ca, .slice y.An y.r.nums.length y.cn, .int .u64 (y.r.rate : Int), .int .i64 y.r.ty, .int .i64 y.r.count, .slice y.Ab y.r.body.length y.cb] 33) = V at hP hQ b4 hX4 hY4 ⊢
      have hPl := hP.lt
      have hQl := hQ.lt
      obtain ⟨y0, y1, y2, y3, y4, y5, y6, y7, y8, y9⟩ := blk10 hP
      obtain ⟨z0, z1, z2, z3, z4, z5, z6, z7, z8, z9⟩ := blk10 hQ
      have bl := (Below.refl _ V).alloc (Nat.le_refl _) (.cells #[.int .i64 x.r.kind, .int .u32 (x.r.src : Int), .int .u32 (x.r.about : Int), .slice x.At x.r.tups.length x.ct, .slice x.Aa x.r.abouts.length x.ca, .slice x.An x.r.nums.length x.cn, .int .u64 (x.r.rate : Int), .int .i64 x.r.ty, .int .i64 x.r.count, .slice x.Ab x.r.body.length x.cb, .int .i64 y.r.kind, .int .u32 (y.r.src : Int), .int .u32 (y.r.about : Int), .slice y.At y.r.tups.length y.ct, .slice y.Aa y.r.abouts.length y.ca, .slice y.An y.r.nums.length y.cn, .int .u64 (y.r.rate : Int), .int .i64 y.r.ty, .int .i64 y.r.count, .slice y.Ab y.r.body.length y.cb] 33)
      have hrr := rr_block (n := 2) (L := [x, y]) (Blk.new V 33 #[.int .i64 x.r.kind, .int .u32 (x.r.src : Int), .int .u32 (x.r.about : Int), .slice x.At x.r.tups.length x.ct, .slice x.Aa x.r.abouts.length x.ca, .slice x.An x.r.nums.length x.cn, .int .u64 (x.r.rate : Int), .int .i64 x.r.ty, .int .i64 x.r.count, .slice x.Ab x.r.body.length x.cb, .int .i64 y.r.kind, .int .u32 (y.r.src : Int), .int .u32 (y.r.about : Int), .slice y.At y.r.tups.length y.ct, .slice y.Aa y.r.abouts.length y.ca, .slice y.An y.r.nums.length y.cn, .int .u64 (y.r.rate : Int), .int .i64 y.r.ty, .int .i64 y.r.count, .slice y.Ab y.r.body.length y.cb]) rfl rfl (fun z hz => by simp only [List.mem_cons, List.not_mem_nil, or_false] at hz; rcases hz with rfl | rfl <;> first | exact hX4.on bl | exact hY4.on bl)
      have q := law6_same _ _ _ _ _ hrr (by omega)
      clear hrr
      go_wp2_with fail
      refine q.mono ?_
      rintro e w5 ⟨rfl, b5⟩
      clear q y0 y1 y2 y3 y4 y5 y6 y7 y8 y9 z0 z1 z2 z3 z4 z5 z6 z7 z8 z9
      have b5 := bl.trans (b5.mono bl.size)
      clear bl
      replace hP := hP.below b5 hPl
      replace hQ := hQ.below b5 hQl
      replace hX4 := hX4.on b5
      replace hY4 := hY4.on b5
      replace b5 := b4.trans (b5.mono b4.size)
      clear b4 hPl hQl
      have hPl := hP.lt
      have hQl := hQ.lt
      obtain ⟨y0, y1, y2, y3, y4, y5, y6, y7, y8, y9⟩ := blk10 hP
      have bl := (Below.refl _ w5).alloc (Nat.le_refl _) (.cells #[.int .i64 x.r.kind, .int .u32 (x.r.src : Int), .int .u32 (x.r.about : Int), .slice x.At x.r.tups.length x.ct, .slice x.Aa x.r.abouts.length x.ca, .slice x.An x.r.nums.length x.cn, .int .u64 (x.r.rate : Int), .int .i64 x.r.ty, .int .i64 x.r.count, .slice x.Ab x.r.body.length x.cb] 33)
      have hrr := rr_block (n := 1) (L := [x]) (Blk.new w5 33 #[.int .i64 x.r.kind, .int .u32 (x.r.src : Int), .int .u32 (x.r.about : Int), .slice x.At x.r.tups.length x.ct, .slice x.Aa x.r.abouts.length x.ca, .slice x.An x.r.nums.length x.cn, .int .u64 (x.r.rate : Int), .int .i64 x.r.ty, .int .i64 x.r.count, .slice x.Ab x.r.body.length x.cb]) rfl rfl (fun z hz => by rw [List.mem_singleton.1 hz]; exact hX4.on bl)
      have q := law6_same _ _ _ _ _ hrr (by omega)
      clear hrr
      go_wp2_with fail
      refine q.mono ?_
      rintro e w6 ⟨rfl, b6⟩
      clear q y0 y1 y2 y3 y4 y5 y6 y7 y8 y9
      have b6 := bl.trans (b6.mono bl.size)
      clear bl
      replace hP := hP.below b6 hPl
      replace hQ := hQ.below b6 hQl
      replace hX4 := hX4.on b6
      replace hY4 := hY4.on b6
      replace b6 := b5.trans (b6.mono b5.size)
      clear b5 hPl hQl
      have hPl := hP.lt
      have hQl := hQ.lt
      have hsm := rep_small okX
      go_wp2_with fail
      go_loopw [5] (fun i wr => ∃ q : Nat, q ≤ 11 ∧ i = .int .i64 (q : Int) ∧ Below w6.heap.size w6 wr) (fun i _ => 11 - (intOf i).toNat)
      case atStart => exact ⟨0, by omega, rfl, Below.refl _ _⟩
      case round =>
        obtain ⟨q, hq, rfl, hbq⟩ := hrel
        by_cases hlq : q < 11
        · have g4 : (q : Int) < 11 := by omega
          go_wp2_with fail
          have hNc : ∀ i : Nat, i < 21 → ∃ x : Int, I64 x ∧ (wr.alloc (.cells #[.int .i64 (-1), .int .i64 0, .int .i64 1, .int .i64 3, .int .i64 6, .int .i64 7, .int .i64 31, .int .i64 32, .int .i64 191, .int .i64 192, .int .i64 205, .int .i64 206, .int .i64 223, .int .i64 224, .int .i64 255, .int .i64 256, .int .i64 511, .int .i64 512, .int .i64 131072, .int .i64 131073, .int .i64 1099511627776] 2)).cell? ⟨wr.heap.size, i, none⟩ = some (.int .i64 x) := by
            intro i hi
            obtain ⟨x, hx, hc⟩ := numsN_at i hi
            exact ⟨x, hx, ((Blk.new wr 2 numsN).cell i).trans hc⟩
          have bz := hbq.alloc hbq.size (.cells #[.int .i64 (-1), .int .i64 0, .int .i64 1, .int .i64 3, .int .i64 6, .int .i64 7, .int .i64 31, .int .i64 32, .int .i64 191, .int .i64 192, .int .i64 205, .int .i64 206, .int .i64 223, .int .i64 224, .int .i64 255, .int .i64 256, .int .i64 511, .int .i64 512, .int .i64 131072, .int .i64 131073, .int .i64 1099511627776] 2)
          have hBl : wr.heap.size < (wr.alloc (.cells #[.int .i64 (-1), .int .i64 0, .int .i64 1, .int .i64 3, .int .i64 6, .int .i64 7, .int .i64 31, .int .i64 32, .int .i64 191, .int .i64 192, .int .i64 205, .int .i64 206, .int .i64 223, .int .i64 224, .int .i64 255, .int .i64 256, .int .i64 511, .int .i64 512, .int .i64 131072, .int .i64 131073, .int .i64 1099511627776] 2)).heap.size := by simp
          clear hbq
          generalize wr.alloc (.cells #[.int .i64 (-1), .int .i64 0, .int .i64 1, .int .i64 3, .int .i64 6, .int .i64 7, .int .i64 31, .int .i64 32, .int .i64 191, .int .i64 192, .int .i64 205, .int .i64 206, .int .i64 223, .int .i64 224, .int .i64 255, .int .i64 256, .int .i64 511, .int .i64 512, .int .i64 131072, .int .i64 131073, .int .i64 1099511627776] 2) = V at hNc bz hBl ⊢
          generalize wr.heap.size = B at hNc hBl ⊢
          go_loopw [44] (fun i wr => ∃ r : Nat, r ≤ 21 ∧ i = .int .i64 (r : Int) ∧ Below V.heap.size V wr) (fun i _ => 21 - (intOf i).toNat)
          case atStart => exact ⟨0, by omega, rfl, Below.refl _ _⟩
          case round =>
            obtain ⟨r, hr21, rfl, hbr⟩ := hrel
            have bV := bz.trans (hbr.mono bz.size)
            by_cases hlr : r < 21
            · have g5 : (r : Int) < 21 := by omega
              obtain ⟨u, hu, hcu⟩ := hNc r hlr
              have hcu := (hbr.cell (p := ⟨B, r, none⟩) hBl).trans hcu
              have hXr := hX4.on bV
              obtain ⟨y0, y1, y2, y3, y4, y5, y6, y7, y8, y9⟩ := blk10 (hP.below bV hPl)
              go_wp2_with fail
              clear y0 y1 y2 y3 y4 y5 y6 y7 y8 y9 hcu
              refine (show Calls _ _ #[.agg #[.int .i64 x.r.kind, .int .u32 (x.r.src : Int), .int .u32 (x.r.about : Int), .slice x.At x.r.tups.length x.ct, .slice x.Aa x.r.abouts.length x.ca, .slice x.An x.r.nums.length x.cn, .int .u64 (x.r.rate : Int), .int .i64 x.r.ty, .int .i64 x.r.count, .slice x.Ab x.r.body.length x.cb], .int .i64 (q : Int), .int .i64 u] _ _ from odd_any x (q : Int) u _ hXr (by unfold I64; omega) hu hsm.1 hsm.2.1 hsm.2.2.1 hsm.2.2.2).mono ?_
              rintro e w7 ⟨_, v, rfl, rfl, hV, b7⟩
              simp only [Rv.val, Rv.cells]
              have bl := (Below.refl _ w7).alloc (Nat.le_refl _) (.cells #[.int .i64 v.r.kind, .int .u32 (v.r.src : Int), .int .u32 (v.r.about : Int), .slice v.At v.r.tups.length v.ct, .slice v.Aa v.r.abouts.length v.ca, .slice v.An v.r.nums.length v.cn, .int .u64 (v.r.rate : Int), .int .i64 v.r.ty, .int .i64 v.r.count, .slice v.Ab v.r.body.length v.cb] 33)
              have hrr := rr_block (n := 1) (L := [v]) (Blk.new w7 33 #[.int .i64 v.r.kind, .int .u32 (v.r.src : Int), .int .u32 (v.r.about : Int), .slice v.At v.r.tups.length v.ct, .slice v.Aa v.r.abouts.length v.ca, .slice v.An v.r.nums.length v.cn, .int .u64 (v.r.rate : Int), .int .i64 v.r.ty, .int .i64 v.r.count, .slice v.Ab v.r.body.length v.cb]) rfl rfl (fun z hz => by rw [List.mem_singleton.1 hz]; exact hV.on bl)
              have q7 := law6_same _ _ _ _ _ hrr (by omega)
              clear hrr
              go_wp2_with fail
              refine q7.mono ?_
              rintro e w8 ⟨rfl, b8⟩
              have bb := b7.trans ((bl.trans (b8.mono bl.size)).mono b7.size)
              have hbr8 := hbr.trans (bb.mono hbr.size)
              clear q7 hV b7 b8 bl bb hXr bV hbr
              go_wp2_with fail
              go_roundw
              case rel => exact ⟨r + 1, by omega, by go_num, hbr8⟩
              case measure => simp [intOf]; omega
            · have g5 : ¬ (r : Int) < 21 := by omega
              clear hbr hNc
              go_wp2_with fail
              go_roundw
              case rel => exact ⟨q + 1, by omega, by go_num, bV⟩
              case measure => simp [intOf]; omega
        · have g4 : ¬ (q : Int) < 11 := by omega
          have hX5 := hX4.on hbq
          have hY5 := hY4.on hbq
          obtain ⟨y0, y1, y2, y3, y4, y5, y6, y7, y8, y9⟩ := blk10 (hP.below hbq hPl)
          obtain ⟨z0, z1, z2, z3, z4, z5, z6, z7, z8, z9⟩ := blk10 (hQ.below hbq hQl)
          have bl := (Below.refl _ wr).alloc (Nat.le_refl _) (.cells #[.int .i64 x.r.kind, .int .u32 (x.r.src : Int), .int .u32 (x.r.about : Int), .slice x.At x.r.tups.length x.ct, .slice x.Aa x.r.abouts.length x.ca, .slice x.An x.r.nums.length x.cn, .int .u64 (x.r.rate : Int), .int .i64 x.r.ty, .int .i64 x.r.count, .slice x.Ab x.r.body.length x.cb, .int .i64 y.r.kind, .int .u32 (y.r.src : Int), .int .u32 (y.r.about : Int), .slice y.At y.r.tups.length y.ct, .slice y.Aa y.r.abouts.length y.ca, .slice y.An y.r.nums.length y.cn, .int .u64 (y.r.rate : Int), .int .i64 y.r.ty, .int .i64 y.r.count, .slice y.Ab y.r.body.length y.cb] 33)
          have hrr := rr_block (n := 2) (L := [x, y]) (Blk.new wr 33 #[.int .i64 x.r.kind, .int .u32 (x.r.src : Int), .int .u32 (x.r.about : Int), .slice x.At x.r.tups.length x.ct, .slice x.Aa x.r.abouts.length x.ca, .slice x.An x.r.nums.length x.cn, .int .u64 (x.r.rate : Int), .int .i64 x.r.ty, .int .i64 x.r.count, .slice x.Ab x.r.body.length x.cb, .int .i64 y.r.kind, .int .u32 (y.r.src : Int), .int .u32 (y.r.about : Int), .slice y.At y.r.tups.length y.ct, .slice y.Aa y.r.abouts.length y.ca, .slice y.An y.r.nums.length y.cn, .int .u64 (y.r.rate : Int), .int .i64 y.r.ty, .int .i64 y.r.count, .slice y.Ab y.r.body.length y.cb]) rfl rfl (fun z hz => by simp only [List.mem_cons, List.not_mem_nil, or_false] at hz; rcases hz with rfl | rfl <;> first | exact hX5.on bl | exact hY5.on bl)
          have hok : ∀ r ∈ [x, y].map Rv.r, RepOk r := by intro r hr; simp only [List.map_cons, List.map_nil, List.mem_cons, List.not_mem_nil, or_false] at hr; rcases hr with rfl | rfl <;> first | exact okX | exact okY
          have q5 := (ref6_bytes _ _ _ _ _ hrr (by omega)).mono fun e w' h => h.1 (ok_errs (l := [x, y].map Rv.r) (by simp) hok (by simp))
          have hl60 := ones_len60 _ hok
          simp only [List.length_map, List.length_cons, List.length_nil] at hl60
          generalize onesB ([x, y].map Rv.r) = lb at q5 hl60
          have b7 := b6.trans ((hbq.trans (bl.mono hbq.size)).mono b6.size)
          clear hrr hok okX okY hX4 hY4 hX5 hY5 hP hQ hPl hQl hsm bl hbq b6
          go_wp2_with fail
          refine q5.mono ?_
          rintro e w7 ⟨v5, rfl, ho5, b8⟩
          obtain ⟨A4, c4, rfl, r4⟩ := ho5.r8
          have b9 := b7.trans (b8.mono b7.size)
          clear q5 y0 y1 y2 y3 y4 y5 y6 y7 y8 y9 z0 z1 z2 z3 z4 z5 z6 z7 z8 z9 ho5 b8 b7
          obtain ⟨L, hL⟩ : ∃ L, lb.length = L := ⟨_, rfl⟩
          rw [hL] at r4 hl60 ⊢
          have HL := Lib.hid hL
          clear hL
          have hcA := r4.2.1
          go_wp2_with fail
          go_loopw [10] (fun i wr => ∃ r : Nat, r ≤ L ∧ i = .int .i64 (r : Int) ∧ Below w7.heap.size w7 wr) (fun i _ => L - (intOf i).toNat)
          case atStart => exact ⟨0, by omega, rfl, Below.refl _ _⟩
          case round =>
            obtain ⟨r, hrL, rfl, hbr⟩ := hrel
            have bX := b9.trans (hbr.mono b9.size)
            by_cases h1 : r < L
            rotate_left
            · have g5 : decide ((r : Int) < (L : Int)) = false := by simp; omega
              go_wp2_with fail
              go_roundw
              case rel => exact ⟨k + 1, by omega, by go_num, bX⟩
              case measure => simp [intOf]; omega
            · have g5 : decide ((r : Int) < (L : Int)) = true := by simp; omega
              by_cases h2 : k < 25
              rotate_left
              · have g6 : decide ((k : Int) < 25) = false := by simp; omega
                go_wp2_with fail
                go_roundw
                case rel => exact ⟨k + 1, by omega, by go_num, bX⟩
                case measure => simp [intOf]; omega
              · have g6 : decide ((k : Int) < 25) = true := by simp; omega
                have r5 := r4.on hbr
                have ro := r5.alloc (Nat.le_refl _) (.cells #[] 5)
                have oe := Own8.empty wr wr.heap.size (Nat.le_refl _)
                have hbb : ([] : List UInt8).length + L ≤ 140737488355328 := by simp; omega
                go_upto_region 22 with (at_builtin; (with_reducible refine wpList_append8 rfl (.tmp 73) (.tmp 74) rfl rfl wr.heap.size (.slice (some ⟨wr.heap.size, 0, none⟩) 0 0) [] (by with_unfolding_all rfl) oe wr.heap.size A4 L c4 lb (by with_unfolding_all rfl) ro hbb (by simp) ?_); intro v8 w8 ha8)
                have bz := ha8.below ((Below.refl wr.heap.size wr).alloc (Nat.le_refl _) _) (by simp) oe (Nat.le_refl _)
                have o8 : Own8 w8 wr.heap.size v8 lb := by have := ha8.1; simpa using this
                obtain ⟨g, c8, hv8, hg1, hg2, hfz, hcell⟩ := own8_some6 o8 (by have := HL.out; omega)
                rw [HL.out] at hv8 hcell
                subst hv8
                have k0 := hcell r h1
                have f0 := hfz r
                have gr : (r : Int) < (L : Int) := by omega
                clear ha8 ro oe hbb hcell hfz
                generalize (lb.getD r 0).toNat = X at k0
                go_upto_region 23 with (fail)
                obtain ⟨yy, hy⟩ := xor86 (X : Int) (2 ^ ((r + k) % 8) % 256)
                rw [hy]
                have o9 := own8_setAt6 (i := r) o8 (by rw [HL.out]; exact h1) yy
                have bz9 := Below.setCell bz (p := ⟨g, r, none⟩) hg1 (.int .u8 (yy.toNat : Int))
                have r9 : R8 (w8.setCell ⟨g, r, none⟩ (.int .u8 (yy.toNat : Int))) (w8.setCell ⟨g, r, none⟩ (.int .u8 (yy.toNat : Int))).heap.size (some ⟨g, 0, none⟩) L c8 (lb.set r yy) := by
                  obtain ⟨A', c', hv, hr⟩ := o9.r8
                  injection hv with e1 e2 e3
                  subst e1 e3
                  rwa [List.length_set, HL.out] at hr
                replace r5 := r5.on bz9
                have hbr9 := hbr.trans (bz9.mono hbr.size)
                clear o8 o9 bz bz9 k0 f0 hy hbr hg1 hg2
                revert r9 r5 hbr9
                generalize w8.setCell ⟨g, r, none⟩ (.int .u8 (yy.toNat : Int)) = W9
                generalize lb.set r yy = lx
                intro r9 r5 hbr9
                obtain ⟨i8, hi8, _⟩ := info_parts u8_info
                have hcut := fun W => run_cut_any (P := Try.prog) 31 5 Try.underlying31 i8 hi8 A4 L c4 r (by omega) W
                have hfrom := fun W => run_fromB W A4 L c4 r (r : Int) rfl (by omega) hcA
                clear hi8
                have rt := r5.take_ r hrL
                have rf := r5.cut r L hrL (Nat.le_refl _)
                go_wp2_with fail
                refine (law6_reads A4 r c4 _ _ rt (by omega)).mono ?_
                rintro e w10 ⟨rfl, b10⟩
                replace r9 := r9.on b10
                replace rf := rf.on b10
                replace b10 := hbr9.trans (b10.mono hbr9.size)
                clear hbr9 rt hcut
                go_wp2_with fail
                refine (law6_reads _ _ _ _ _ r9 (by omega)).mono ?_
                rintro e w11 ⟨rfl, b11⟩
                replace rf := rf.on b11
                replace b11 := b10.trans (b11.mono b10.size)
                clear b10 r9
                go_wp2_with fail
                refine (law6_reads _ _ _ _ _ rf (by omega)).mono ?_
                rintro e w12 ⟨rfl, b12⟩
                replace b12 := b11.trans (b12.mono b11.size)
                clear b11 rf hfrom
                go_wp2_with fail
                go_roundw
                case rel => exact ⟨r + 1, by omega, by go_num, b12⟩
                case measure => simp [intOf]; omega
end Go.Proofs.Ytnchgmemajmkjaa.RP
