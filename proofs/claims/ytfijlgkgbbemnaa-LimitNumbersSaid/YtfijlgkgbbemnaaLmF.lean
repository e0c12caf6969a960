/- LimitNumbers' walk. -/
import Derived.Test.YtfijlgkgbbemnaaLmZ
import Derived.Test.YtfijlgkgbbemnaaLmD
import Derived.Test.YtfijlgkgbbemnaaNp
import Derived.Test.YtfijlgkgbbemnaaAppK
namespace Go.Proofs.Ytfijlgkgbbemnaa.RP
open Go.RowKit
set_option linter.unusedVariables false
set_option linter.unusedSimpArgs false
set_option maxRecDepth 20000

theorem tape_at {w : World} {A : Option Addr} {n c : Nat} (h : RI w w.heap.size A n c) (hn : n ≤ 281474976710656) : TapeAt (w.alloc (.cells #[.slice A n c, .int .i64 0] 26)) w.heap.size :=
  ⟨A, n, c, 0, Blk.new _ _ _, Nat.zero_le _, hn, h.keep ((Below.refl _ w).alloc (Nat.le_refl _) _)⟩
theorem w64_in (m : Int) : I64 (wrap64 m) := by unfold wrap64 I64; omega
theorem tm6_in (m : Int) : I64 (m.tmod 6) := by
  have h1 := Int.lt_tmod_of_pos m (show (0 : Int) < 6 by omega)
  have h2 := Int.tmod_lt_of_pos m (show (0 : Int) < 6 by omega)
  unfold I64
  omega
theorem i64_zero : I64 0 := ⟨by decide, by decide⟩
theorem i64_big : I64 2199023255552 := ⟨by decide, by decide⟩
theorem i64_neg : I64 (-5) := ⟨by decide, by decide⟩
/-- A literal of three. -/
theorem three_ra (w : World) (x0 x1 x2 : Ask) (hi : ∀ x ∈ [x0, x1, x2], x.In) : RA (w.alloc (.cells #[.int .i64 x0.kind, .int .u32 (x0.t.owner : Int), .int .u64 (x0.t.rate : Int), .int .i64 x0.t.over, .int .i64 x0.n, .int .i64 x1.kind, .int .u32 (x1.t.owner : Int), .int .u64 (x1.t.rate : Int), .int .i64 x1.t.over, .int .i64 x1.n, .int .i64 x2.kind, .int .u32 (x2.t.owner : Int), .int .u64 (x2.t.rate : Int), .int .i64 x2.t.over, .int .i64 x2.n] 34)) (w.heap.size + 1) (some ⟨w.heap.size, 0, none⟩) 3 3 [x0, x1, x2] := by
  refine ⟨rfl, hi, ⟨rfl, Nat.le_refl _, fun _ => ⟨w.heap.size, 0, rfl, by omega, fun j v hj => ?_⟩⟩⟩
  rw [Nat.zero_add, (Blk.new w 34 _).cell j, ← hj]
  simp [cellsA, Ask.cells]
theorem wpList_appendAK {w : World} {ops : Array Oper} {rest : List Oper} {o : Oper} {a : Act} {Q : Exit → Act → World → Prop} (hgd : o.guard = none) (s x : Operand)
    (ho : o.op = .call { callee := .builtin .append, args := #[s, x], argTypes := #[27, 27] }) (hty : o.type = 27)
    (base : Nat) (v : Value) (l : List Ask) (hs : a.eval s = v) (hown : OwnA w base v l)
    (B : Nat) (A : Option Addr) (m c : Nat) (r : List Ask) (hx : a.eval x = .slice A m c) (hr : RA w B A m c r)
    (hb : l.length + m ≤ 3518437208883) (hbase : base ≤ w.heap.size)
    (h : ∀ v' w', OwnA w' base v' (l ++ r) ∧ w.grownBy w' v.ownBlock ∧ OwnA w' base v l → wpList Try.prog ops Q rest (a.put o.dst v') w') : wpList Try.prog ops Q (o :: rest) a w :=
  wpList_plain hgd fun K hK => by
    obtain ⟨v', w', hrun, ⟨h2, h3, _⟩, h4⟩ := run_appendK base 27 27 34 zA.val 5 40 Try.underlying27 ask_info rfl (by omega) v l.length (cellsA l) hown B A m c (cellsA r) hr.2.2 (cellsA_one r) (by simp only [maxLen]; omega) (by omega) hbase
    unfold Oper.wp execOp
    simp only [ho, hty, resolve, invoke, builtin, Sem.run_bind, Sem.run_pure, Result.andThen_ok, List.map_toArray, List.map_cons, List.map_nil, hs, hx, hrun]
    refine hK _ _ (h v' w' ⟨?_, h3, h4⟩)
    unfold OwnA
    rw [List.length_append, hr.1, cellsA_app]
    exact h2
/-- The asks so far, beside their tape. -/
structure NumA (w : World) (gt q : Nat) (v : Value) (S : List Ask) (W : World) : Prop where
  own : OwnA W (gt + 1) v S
  ins : ∀ x ∈ S, x.In
  len : S.length = q
  tape : TapeAt W gt
  below : Below w.heap.size w W
  lo : w.heap.size ≤ gt
  size : gt + 1 ≤ W.heap.size
theorem NumA.one {w W W5 : World} {gt q : Nat} {v : Value} {S : List Ask} (h : NumA w gt q v S W) (hm : Moves gt W W5) : NumA w gt q v S W5 :=
  ⟨own_moves h.own (by omega) hm, h.ins, h.len, hm.tape, h.below.trans (hm.below.mono h.lo), h.lo, Nat.le_trans h.size hm.below.size⟩
theorem NumA.more {w W W9 : World} {gt q : Nat} {v v9 : Value} {S : List Ask} {x : Ask} {o : Obj} (h : NumA w gt q v S W) (hx : x.In) (ha : OwnA W9 (gt + 1) v9 (S ++ [x])) (hg : (W.alloc o).grownBy W9 v.ownBlock) : NumA w gt (q + 1) v9 (S ++ [x]) W9 := by
  have hb : ∀ k, v.ownBlock = some k → gt + 1 ≤ k := fun k hk => (World.ownsRow.lt h.own k hk).1
  have h1 : Below (gt + 1) W W9 := below_grown ((belowA W o).mono h.size) (by have := (belowA W o).size; have := h.size; omega) hg hb
  exact ⟨ha, fun y hy => by
    rcases List.mem_append.1 hy with h2 | h2
    · exact h.ins y h2
    · rw [List.mem_singleton] at h2
      rw [h2]
      exact hx, by rw [List.length_append, h.len]; rfl, h.tape.keep (h1.mono (by omega)) (h1.block gt (by omega)), h.below.trans (h1.mono (by have := h.lo; omega)), h.lo, Nat.le_trans h.size h1.size⟩
/-- The asks of numbers so far. -/
structure NumM (w : World) (q : Nat) (v : Value) (S : List Ask) (W : World) : Prop where
  own : OwnA W w.heap.size v S
  ins : ∀ x ∈ S, x.In
  len : S.length = q
  below : Below w.heap.size w W
theorem NumM.more {w W W9 : World} {q : Nat} {v v9 : Value} {S : List Ask} {x : Ask} {o : Obj} (h : NumM w q v S W) (hx : x.In) (ha : OwnA W9 w.heap.size v9 (S ++ [x])) (hg : (W.alloc o).grownBy W9 v.ownBlock) : NumM w (q + 1) v9 (S ++ [x]) W9 :=
  ⟨ha, fun y hy => by
    rcases List.mem_append.1 hy with h2 | h2
    · exact h.ins y h2
    · rw [List.mem_singleton] at h2
      rw [h2]
      exact hx, by rw [List.length_append, h.len]; rfl, below_grown (h.below.trans ((belowA W o).mono h.below.size)) (by have := (belowA W o).size; have := h.below.size; omega) hg (fun k hk => (World.ownsRow.lt h.own k hk).1)⟩
theorem NumM.ra {w W : World} {q c : Nat} {A : Option Addr} {S : List Ask} (h : NumM w q (.slice A q c) S W) : RA W W.heap.size A q c S := by
  obtain ⟨A', c', e, hr, _⟩ := h.own.ra h.ins
  rw [h.len] at e hr
  injection e with e1 _ e3
  subst e1
  subst e3
  exact hr
set_option maxHeartbeats 4000000 in
theorem limitNumbers_walk (w : World) : Calls Try.prog 3 #[] w (Yes w) := by
  go_enter Try.func3, Try.ntmps3
  go_wp2_with fail
  go_loopw [1, 2, 3, 4] (fun i _ _ _ wr => ∃ k : Nat, k ≤ 40 ∧ i = .int .i64 (k : Int) ∧ Below w.heap.size w wr) (fun i _ _ _ _ => 40 - (intOf i).toNat)
  case atStart => exact ⟨0, by omega, rfl, Below.refl _ _⟩
  case round =>
    obtain ⟨k, hk, rfl, b0⟩ := hrel
    have HB0 := Lib.hid b0
    clear b0
    by_cases hlt : k < 40
    · have g1 : decide ((k : Int) < 40) = true := by simp; omega
      have g1' : (k : Int) < 40 := by omega
      go_wp2_with fail
      ((with_reducible refine (law_tape14 k (by omega) _).mono ?_); rintro e w2 ⟨At, ct, rfl, rt, b2⟩)
      have HT0 : Hid (NumA w w2.heap.size 0 (.slice none 0 0) [] (w2.alloc (.cells #[.slice At 400 ct, .int .i64 0] 26))) := Lib.hid (by
        have bT := belowA w2 (.cells #[.slice At 400 ct, .int .i64 0] 26)
        exact ⟨OwnA.nil _ _, by simp, rfl, tape_at rt (by omega), HB0.out.trans ((b2.trans (bT.mono b2.size)).mono HB0.out.size), Nat.le_trans HB0.out.size b2.size, by simp⟩)
      clear rt b2
      go_upto_region 5 with (fail)
      generalize w2.alloc (.cells #[.slice At 400 ct, .int .i64 0] 26) = W3 at HT0 ⊢
      generalize w2.heap.size = gt at HT0 ⊢
      obtain ⟨wo, rfl⟩ : ∃ wo, wo = wr := ⟨_, rfl⟩
      go_wp2_with fail
      go_loopw [3, 4] (fun v i wr => (∃ (q : Nat) (A : Option Addr) (c : Nat), v = .slice A q c ∧ q ≤ 70 ∧ i = .int .i64 (q : Int) ∧ Hid (∃ S, NumA w gt q v S wr))) (fun _ i _ => 70 - (intOf i).toNat)
      case atStart => exact ⟨0, none, 0, rfl, by omega, rfl, Lib.hid ⟨[], HT0.out⟩⟩
      case round =>
        obtain ⟨q, AS, cS, rfl, hq, rfl, HS⟩ := hrel
        clear HT0
        obtain ⟨S, hs⟩ := HS.out
        have HN := Lib.hid hs
        clear hs HS
        by_cases hl2 : q < 70
        · have g2 : decide ((q : Int) < 70) = true := by simp; omega
          have g2' : (q : Int) < 70 := by omega
          have HTT := Lib.hid ((tape_tuple2 gt wr HN.out.tape).mono fun e w' h => (show ∃ (xo xr : Nat) (xv : Int), e = .returned (.agg #[.int .u32 (xo : Int), .int .u64 (xr : Int), .int .i64 xv]) ∧ Tup.In ⟨xo, xr, xv⟩ ∧ Moves gt wr w' from by
            obtain ⟨⟨xo, xr, xv⟩, h1, h2, _, _, h3⟩ := h
            exact ⟨xo, xr, xv, h1, h2, h3⟩))
          go_wp2_with fail
          ((with_reducible refine HTT.out.mono ?_); rintro e w5 ⟨xo, xr, xv, rfl, hxi, hm5⟩)
          have HN5 := Lib.hid (HN.out.one hm5)
          have HIN : Hid (Ask.In ⟨(wrap64 (wrap64 ((q : Int) * (q : Int)) + (k : Int))).tmod 6, ⟨xo, xr, xv⟩, wrap64 ((wrap64 ((q : Int) * (k : Int))).tmod 9 * 200000)⟩) := Lib.hid ⟨tm6_in _, hxi, w64_in _⟩
          have oA := HN5.out.own.on (belowA w5 (.cells #[.int .i64 ((wrap64 (wrap64 ((q : Int) * (q : Int)) + (k : Int))).tmod 6), .int .u32 (xo : Int), .int .u64 (xr : Int), .int .i64 xv, .int .i64 (wrap64 ((wrap64 ((q : Int) * (k : Int))).tmod 9 * 200000))] 34))
          have rA := one_ra w5 ⟨(wrap64 (wrap64 ((q : Int) * (q : Int)) + (k : Int))).tmod 6, ⟨xo, xr, xv⟩, wrap64 ((wrap64 ((q : Int) * (k : Int))).tmod 9 * 200000)⟩ HIN.out
          have sA : gt + 1 ≤ (w5.alloc (.cells #[.int .i64 ((wrap64 (wrap64 ((q : Int) * (q : Int)) + (k : Int))).tmod 6), .int .u32 (xo : Int), .int .u64 (xr : Int), .int .i64 xv, .int .i64 (wrap64 ((wrap64 ((q : Int) * (k : Int))).tmod 9 * 200000))] 34)).heap.size := by have := HN5.out.size; simp; omega
          have HL := Lib.hid (show S.length + 1 ≤ 3518437208883 by have := HN5.out.len; omega)
          have HO := Lib.hid (⟨oA, rA, sA⟩ : _ ∧ _ ∧ _)
          clear HTT HN hxi hm5 oA rA sA
          go_wp2_with (at_builtin; go_loud (with_reducible refine wpList_appendA rfl (.tmp 19) (.tmp 34) rfl rfl (gt + 1) (.slice AS q cS) S (by with_unfolding_all rfl) HO.out.1 _ _ 1 1 [⟨(wrap64 (wrap64 ((q : Int) * (q : Int)) + (k : Int))).tmod 6, ⟨xo, xr, xv⟩, wrap64 ((wrap64 ((q : Int) * (k : Int))).tmod 9 * 200000)⟩] (by with_unfolding_all rfl) HO.out.2.1 HL.out HO.out.2.2 ?_); intro v9 w9 ha9)
          have HR := Lib.hid (HN5.out.more HIN.out ha9.1 ha9.2)
          obtain ⟨A9, c9, e9, _⟩ := HR.out.own.ra HR.out.ins
          rw [HR.out.len] at e9
          have HE := Lib.hid e9
          clear ha9 e9
          go_roundw
          case rel => exact ⟨q + 1, _, _, HE.out, by omega, by go_num, Lib.hid ⟨_, HR.out⟩⟩
          case measure => simp [intOf]; omega
        · have g2 : decide ((q : Int) < 70) = false := by simp; omega
          have hra : RA wr wr.heap.size AS q cS S := by
            obtain ⟨A', c', e, hr, _⟩ := HN.out.own.ra HN.out.ins
            rw [HN.out.len] at e hr
            injection e with e1 _ e3
            subst e1
            subst e3
            exact hr
          have HRA := Lib.hid hra
          clear hra hl2
          go_wp2_with fail
          ((with_reducible refine (play_any ((k : Int) * 5000) (by unfold I64; omega) AS q cS S _ HRA.out (by omega)).mono ?_); rintro e w6 ⟨rfl, d6⟩)
          have b6 := HN.out.below.trans (d6.mono HN.out.below.size)
          clear d6 HN HRA
          go_wp2_with fail
          go_roundw
          case rel => exact ⟨k + 1, by omega, by go_num, b6⟩
          case measure => simp [intOf]; omega
    · have g1 : decide ((k : Int) < 40) = false := by simp; omega
      go_upto_region 13 with (fail)
      have H0 : Hid (NumM w 0 (.slice none 0 0) [] wr) := Lib.hid ⟨OwnA.nil _ _, by simp, rfl, HB0.out⟩
      clear HB0
      obtain ⟨wo, rfl⟩ : ∃ wo, wo = wr := ⟨_, rfl⟩
      go_wp2_with fail
      go_loopw [5, 6] (fun v i wr => (∃ (q : Nat) (A : Option Addr) (c : Nat), v = .slice A q c ∧ q ≤ 9 ∧ i = .int .i64 (q : Int) ∧ Hid (∃ S, NumM w q v S wr))) (fun _ i _ => 9 - (intOf i).toNat)
      case atStart => exact ⟨0, none, 0, rfl, by omega, rfl, Lib.hid ⟨[], H0.out⟩⟩
      case round =>
        obtain ⟨q, AS, cS, rfl, hq, rfl, HS⟩ := hrel
        clear H0
        obtain ⟨S, hs⟩ := HS.out
        have HN := Lib.hid hs
        clear hs HS
        by_cases hl2 : q < 9
        · have g2 : decide ((q : Int) < 9) = true := by simp; omega
          have g2' : (q : Int) < 9 := by omega
          have HIN : Hid (Ask.In ⟨0, ⟨20 - q, q * 80, 0⟩, (q : Int)⟩) := Lib.hid ⟨i64_zero, ⟨by show 20 - q < 4294967296; omega, by show q * 80 < 18446744073709551616; omega, i64_zero⟩, by show I64 (q : Int); unfold I64; omega⟩
          have rA : RA (wr.alloc (.cells #[.int .i64 0, .int .u32 (20 - (q : Int)), .int .u64 ((q : Int) * 80), .int .i64 0, .int .i64 (q : Int)] 34)) (wr.heap.size + 1) (some ⟨wr.heap.size, 0, none⟩) 1 1 [⟨0, ⟨20 - q, q * 80, 0⟩, (q : Int)⟩] := by
            have h := one_ra wr ⟨0, ⟨20 - q, q * 80, 0⟩, (q : Int)⟩ HIN.out
            simp only at h
            rwa [show ((20 - q : Nat) : Int) = 20 - (q : Int) by omega, show ((q * 80 : Nat) : Int) = (q : Int) * 80 by omega] at h
          have oA := HN.out.own.on (belowA wr (.cells #[.int .i64 0, .int .u32 (20 - (q : Int)), .int .u64 ((q : Int) * 80), .int .i64 0, .int .i64 (q : Int)] 34))
          have sA : w.heap.size ≤ (wr.alloc (.cells #[.int .i64 0, .int .u32 (20 - (q : Int)), .int .u64 ((q : Int) * 80), .int .i64 0, .int .i64 (q : Int)] 34)).heap.size := by have := HN.out.below.size; simp; omega
          have HL := Lib.hid (show S.length + 1 ≤ 3518437208883 by have := HN.out.len; omega)
          have HO := Lib.hid (⟨oA, rA, sA⟩ : _ ∧ _ ∧ _)
          clear oA rA sA
          go_wp2_with (at_builtin; go_loud (with_reducible refine wpList_appendA rfl (.tmp 45) (.tmp 55) rfl rfl w.heap.size (.slice AS q cS) S (by with_unfolding_all rfl) HO.out.1 _ _ 1 1 [⟨0, ⟨20 - q, q * 80, 0⟩, (q : Int)⟩] (by with_unfolding_all rfl) HO.out.2.1 HL.out HO.out.2.2 ?_); intro v9 w9 ha9)
          have HR := Lib.hid (HN.out.more HIN.out ha9.1 ha9.2)
          obtain ⟨A9, c9, e9, _⟩ := HR.out.own.ra HR.out.ins
          rw [HR.out.len] at e9
          have HE := Lib.hid e9
          clear ha9 e9
          go_roundw
          case rel => exact ⟨q + 1, _, _, HE.out, by omega, by go_num, Lib.hid ⟨_, HR.out⟩⟩
          case measure => simp [intOf]; omega
        · have g2 : decide ((q : Int) < 9) = false := by simp; omega
          have hq9 : q = 9 := by omega
          subst hq9
          clear hq hl2
          obtain ⟨x8, hx8⟩ : ∃ x, S[8]? = some x := by
            rw [List.getElem?_eq_getElem (by rw [HN.out.len]; omega)]
            exact ⟨_, rfl⟩
          have hx8i : x8.In := HN.out.ins _ (List.mem_of_getElem? hx8)
          obtain ⟨hl8, hx8⟩ := List.getElem?_eq_some_iff.1 hx8
          obtain ⟨b8, o8, hA8, hb8, k0, k1, k2, k3, k4⟩ := HN.out.ra.at hl8
          subst hA8
          rw [hx8] at k0 k1 k2 k3 k4
          obtain ⟨xk, ⟨xo, xr, xv⟩, xn⟩ := x8
          clear hx8 hl8
          have rA := three_ra wr ⟨4, ⟨0, 0, 0⟩, 1000002⟩ ⟨xk, ⟨xo, xr, xv⟩, xn⟩ ⟨3, ⟨0, 18446744073709551615, 0⟩, 0⟩ (fun x hx => by
            simp only [List.mem_cons, List.not_mem_nil, or_false] at hx
            rcases hx with rfl | rfl | rfl
            · exact ⟨⟨by decide, by decide⟩, ⟨by decide, by decide, i64_zero⟩, ⟨by decide, by decide⟩⟩
            · exact hx8i
            · exact ⟨⟨by decide, by decide⟩, ⟨by decide, by decide, i64_zero⟩, i64_zero⟩)
          have rA : RA (wr.alloc (.cells #[.int .i64 4, .int .u32 0, .int .u64 0, .int .i64 0, .int .i64 1000002, .int .i64 xk, .int .u32 (xo : Int), .int .u64 (xr : Int), .int .i64 xv, .int .i64 xn, .int .i64 3, .int .u32 0, .int .u64 18446744073709551615, .int .i64 0, .int .i64 0] 34)) (wr.heap.size + 1) (some ⟨wr.heap.size, 0, none⟩) 3 3 [⟨4, ⟨0, 0, 0⟩, 1000002⟩, ⟨xk, ⟨xo, xr, xv⟩, xn⟩, ⟨3, ⟨0, 18446744073709551615, 0⟩, 0⟩] := rA
          have hAll : ∀ x ∈ S ++ [(⟨4, ⟨0, 0, 0⟩, 1000002⟩ : Ask), ⟨xk, ⟨xo, xr, xv⟩, xn⟩, ⟨3, ⟨0, 18446744073709551615, 0⟩, 0⟩], x.In := fun x hx => by
            rcases List.mem_append.1 hx with h1 | h1
            · exact HN.out.ins x h1
            · exact rA.2.1 x h1
          have bA := belowA wr (.cells #[.int .i64 4, .int .u32 0, .int .u64 0, .int .i64 0, .int .i64 1000002, .int .i64 xk, .int .u32 (xo : Int), .int .u64 (xr : Int), .int .i64 xv, .int .i64 xn, .int .i64 3, .int .u32 0, .int .u64 18446744073709551615, .int .i64 0, .int .i64 0] 34)
          have HO := Lib.hid (⟨HN.out.own.on bA, rA, hAll, HN.out.below.trans (bA.mono HN.out.below.size)⟩ : _ ∧ _ ∧ _ ∧ _)
          have HL := Lib.hid (show S.length + 3 ≤ 3518437208883 by have := HN.out.len; omega)
          clear hx8i rA hAll bA
          go_upto_region 17 with (fail)
          go_wp2_with (at_builtin; go_loud ((with_reducible refine wpList_appendAK rfl (.tmp 57) (.tmp 64) rfl rfl w.heap.size (.slice (some ⟨b8, o8, none⟩) 9 cS) S (by with_unfolding_all rfl) HO.out.1 _ _ 3 3 _ (by with_unfolding_all rfl) HO.out.2.1 HL.out HO.out.2.2.2.size ?_); intro v9 w9 ha9; obtain ⟨A9, c9, e9, r9, _⟩ := ha9.1.ra HO.out.2.2.1; have H9 := Lib.hid (⟨ha9.2.2, r9, below_grown HO.out.2.2.2 HO.out.2.2.2.size ha9.2.1 (fun kk hkk => (World.ownsRow.lt HO.out.1 kk hkk).1)⟩ : _ ∧ _ ∧ _); have hn9 : (S ++ [(⟨4, ⟨0, 0, 0⟩, 1000002⟩ : Ask), ⟨xk, ⟨xo, xr, xv⟩, xn⟩, ⟨3, ⟨0, 18446744073709551615, 0⟩, 0⟩]).length = 12 := (by simp [HN.out.len]); rw [hn9] at e9; have HN9 := Lib.hid hn9; clear hn9 ha9 r9; subst e9; clear k0 k1 k2 k3 k4))
          have r9 := H9.out.2.1
          rw [HN9.out] at r9
          have HR9 := Lib.hid r9
          clear r9
          ((with_reducible refine (play_any 2199023255552 i64_big A9 12 c9 _ _ HR9.out (by omega)).mono ?_); rintro e w10 ⟨rfl, d10⟩)
          have H10 : Hid (NumM w 9 (.slice (some ⟨b8, o8, none⟩) 9 cS) S w10) := Lib.hid ⟨H9.out.1.on d10, HN.out.ins, HN.out.len, H9.out.2.2.trans (d10.mono H9.out.2.2.size)⟩
          clear d10 HR9 H9 HO
          go_wp2_with fail
          ((with_reducible refine (play_any (-5) i64_neg (some ⟨b8, o8, none⟩) 9 cS S _ H10.out.ra (by omega)).mono ?_); rintro e w11 ⟨rfl, d11⟩)
          have b11 := H10.out.below.trans (d11.mono H10.out.below.size)
          clear d11 H10 HN
          go_wp2_with fail
          ((with_reducible refine (known14_any _).mono ?_); rintro e w12 ⟨rfl, d12⟩)
          have b12 := b11.trans (d12.mono b11.size)
          clear d12 b11
          go_wp2_with fail
          go_ret
          exact ⟨rfl, b12⟩
end Go.Proofs.Ytfijlgkgbbemnaa.RP
