/- The walk of the law's layers. -/
import Derived.Test.YtgopfoanhiedfaaVlJ
import Derived.BigQuiet
import Derived.Deep.CutRange
import Derived.Deep.QuietTactic
namespace Go.Proofs.Ytgopfoanhiedfaa
open Go.RowKit
set_option linter.unusedVariables false
set_option linter.unusedSimpArgs false
set_option maxRecDepth 20000

theorem belowN (B : Nat) (w : World) (n : Nat) : Below B w (w.drewN n) := ⟨rfl, (Below.refl B w).tape, rfl, Nat.le_refl _, fun _ _ => rfl⟩
theorem rl_two (w : World) (x y : Lay) (hx : x.In) (hy : y.In) : RL (w.alloc (.cells #[.string x.rid, .int .u32 (x.ssrc : Int), .int .i64 x.height, .string y.rid, .int .u32 (y.ssrc : Int), .int .i64 y.height] 28)) (w.heap.size + 1) (some ⟨w.heap.size, 0, none⟩) 2 2 [x, y] := by
  refine ⟨rfl, by simp [hx, hy], ⟨rfl, Nat.le_refl _, fun _ => ⟨w.heap.size, 0, rfl, by omega, fun j v hj => ?_⟩⟩⟩
  have h : Blk (w.alloc (.cells #[.string x.rid, .int .u32 (x.ssrc : Int), .int .i64 x.height, .string y.rid, .int .u32 (y.ssrc : Int), .int .i64 y.height] 28)) w.heap.size 28 #[.string x.rid, .int .u32 (x.ssrc : Int), .int .i64 x.height, .string y.rid, .int .u32 (y.ssrc : Int), .int .i64 y.height] := Blk.new _ _ _
  rw [Nat.zero_add, h.cell j, ← hj]
  simp [cellsL, Lay.cells]
theorem ownL_empty (w : World) : OwnL (w.alloc (.cells #[] 28)) w.heap.size (.slice (some ⟨w.heap.size, 0, none⟩) 0 0) [] :=
  World.ownsRow_made (base := w.heap.size) (e := 28) (size := 3) w #[] 0 (Nat.le_refl _) (Nat.zero_le _) rfl
set_option maxHeartbeats 8000000 in
theorem lay_law (s : ByteArray) (n m : Int) (x : Lay) (A : Option Addr) (k c : Nat) (many : List Lay) (w : World) (hs : s.size ≤ 140737488355328) (hn : I64 n) (hm : I64 m) (hx : x.In) (hr : RL w w.heap.size A k c many) (hk : k ≤ 5) :
    Calls Try.prog 7 #[.string s, .int .i64 n, .int .i64 m, x.val, .slice A k c] w (Yes w) := by
  have hxi := hx.rid
  obtain ⟨Y, hY⟩ : ∃ Y, Y = l3 s n m := ⟨_, rfl⟩
  obtain ⟨F, hF⟩ : ∃ F, F = l3E s n m := ⟨_, rfl⟩
  obtain ⟨X, hX⟩ : ∃ X, X = rgt x := ⟨_, rfl⟩
  obtain ⟨H, hH⟩ : ∃ H, H = rgE x := ⟨_, rfl⟩
  have hYi : Y.In := by rw [hY]; exact l3_in hs hm
  have hXi : X.In := by rw [hX]; exact rgt_in hx
  have c1 := fun (A : Option Addr) (c : Nat) (w : World) => layer3_i64 A c s n m w hs hn hm
  have c2 := fun (w : World) => law_layer s n m w hs hn hm
  have c3 := fun (A : Option Addr) (c : Nat) (w : World) => layer_one A c x w hx
  have c4 := fun (w : World) => law_layer x.rid (x.ssrc : Int) x.height w hx.rid (by have := hx.ssrc; unfold I64; omega) hx.height
  rw [(l3_lay x hx).1, (l3_lay x hx).2] at c4
  have c5 := fun (w : World) (A0 : Option Addr) (hr : RL w w.heap.size A k c many) (h : RX w w.heap.size A0 5 5 1 [.iface 29 (.slice A k c), .iface 9 (.string s), .iface 2 (.int .i64 n), .iface 2 (.int .i64 m), .iface 28 x.val]) => layers_any A0 5 5 _ w (by omega) (items_five hs hn hm hx (by omega) hr h)
  simp only [res_of] at c5
  rw [← hY, ← hF] at c1 c2 c5
  rw [← hX, ← hH] at c3 c4 c5
  clear hY hF hX hH
  obtain ⟨R, hR⟩ : ∃ R, R = (if whyZ (eachE many) F H many.length = 0 then (many ++ [Y, X], 0) else ([], whyZ (eachE many) F H many.length)) := ⟨_, rfl⟩
  rw [← hR] at c5
  have HR := Lib.hid hR
  clear hR
  have D1 := Lib.hid c1
  have D2 := Lib.hid c2
  have D3 := Lib.hid c3
  have D4 := Lib.hid c4
  have D5 := Lib.hid c5
  have hnX := fun W => neq_same X W
  have hnY := fun W => neq_same Y W
  clear c1 c2 c3 c4 c5
  have g8 := (Blk.new w 28 #[.string x.rid, .int .u32 (x.ssrc : Int), .int .i64 x.height]).alloc (.cells #[.iface 9 (.string s), .iface 2 (.int .i64 n), .iface 2 (.int .i64 m)] 20)
  have r3 := rx_lit (w.alloc (.cells #[.string x.rid, .int .u32 (x.ssrc : Int), .int .i64 x.height] 28)) (w.heap.size + 1) 3 20 _ #[.iface 9 (.string s), .iface 2 (.int .i64 n), .iface 2 (.int .i64 m)] (by simp) rfl rfl
  have z0 := (below_alloc w (.cells #[.string x.rid, .int .u32 (x.ssrc : Int), .int .i64 x.height] 28))
  have z1 := z0.alloc z0.size (.cells #[.iface 9 (.string s), .iface 2 (.int .i64 n), .iface 2 (.int .i64 m)] 20)
  clear z0
  go_enter Try.func7, Try.ntmps7
  go_wp2_with fail
  refine (D1.out _ _ _ r3).mono ?_
  rintro e w1 ⟨rfl, b1⟩
  have g8 := Lib.hid (g8.below b1 g8.lt)
  have y1 := z1.trans (b1.mono z1.size)
  clear b1 z1 r3
  go_wp2_with fail
  refine (D2.out _).mono ?_
  rintro e w2 ⟨rfl, b2⟩
  have g8' := g8.out.below ((below_alloc w1 (.cells #[.string Y.rid, .int .u32 (Y.ssrc : Int), .int .i64 Y.height] 28)).trans (b2.mono (by simp))) g8.out.lt
  have g11 := (Blk.new w1 28 #[.string Y.rid, .int .u32 (Y.ssrc : Int), .int .i64 Y.height]).below b2 (by simp)
  have y2 := (y1.alloc y1.size (.cells #[.string Y.rid, .int .u32 (Y.ssrc : Int), .int .i64 Y.height] 28)).trans (b2.mono (y1.alloc y1.size (.cells #[.string Y.rid, .int .u32 (Y.ssrc : Int), .int .i64 Y.height] 28)).size)
  clear b2 y1 g8
  have k8 := (blk3 g8').1
  have l8 := g8'.lt
  have k11 := (blk3 g11).1
  have l11 := g11.lt
  have r1 := rx_lit (w2.alloc (.cells #[.string Y.rid, .int .u32 (Y.ssrc : Int), .int .i64 Y.height] 28)) (w2.heap.size + 1) 1 20 _ #[.iface 28 x.val] (by simp) rfl rfl
  have hxs := hx.ssrc
  go_wp2_with fail
  refine (D3.out _ _ _ r1).mono ?_
  rintro e w3 ⟨rfl, b3⟩
  have q3 := ((below_alloc w2 (.cells #[.string Y.rid, .int .u32 (Y.ssrc : Int), .int .i64 Y.height] 28)).alloc (by simp) (.cells #[.iface 28 x.val] 20)).trans (b3.mono (by simp; omega))
  have g8 := g8'.below q3 l8
  have g13 := ((Blk.new w2 28 #[.string Y.rid, .int .u32 (Y.ssrc : Int), .int .i64 Y.height]).alloc (.cells #[.iface 28 x.val] 20)).below b3 (by simp; omega)
  have y3 := y2.trans (q3.mono y2.size)
  clear b3 y2 q3 r1 k8 l8 k11 l11 g11 g8'
  have k8 := (blk3 g8).1
  have l8 := g8.lt
  go_wp2_with fail
  refine (D4.out _).mono ?_
  rintro e w4 ⟨rfl, b4⟩
  have q4 := (below_alloc w3 (.cells #[.string X.rid, .int .u32 (X.ssrc : Int), .int .i64 X.height] 28)).trans (b4.mono (by simp))
  have g8' := g8.below q4 g8.lt
  have g13' := g13.below q4 g13.lt
  have g15 := (Blk.new w3 28 #[.string X.rid, .int .u32 (X.ssrc : Int), .int .i64 X.height]).below b4 (by simp)
  have y4 := y3.trans (q4.mono y3.size)
  clear b4 y3 q4 g8 g13 k8 l8
  have k8 := (blk3 g8').1
  have l8 := g8'.lt
  have k15 := (blk3 g15).1
  have l15 := g15.lt
  have G13a := Lib.hid g13'
  clear g13'
  have r5 := rx_lit (w4.alloc (.cells #[.string X.rid, .int .u32 (X.ssrc : Int), .int .i64 X.height] 28)) (w4.heap.size + 1) 5 20 _ #[.iface 29 (.slice A k c), .iface 9 (.string s), .iface 2 (.int .i64 n), .iface 2 (.int .i64 m), .iface 28 x.val] (by simp) rfl rfl
  have q5 := (below_alloc w4 (.cells #[.string X.rid, .int .u32 (X.ssrc : Int), .int .i64 X.height] 28)).alloc (by simp) (.cells #[.iface 29 (.slice A k c), .iface 9 (.string s), .iface 2 (.int .i64 n), .iface 2 (.int .i64 m), .iface 28 x.val] 20)
  have y4' := y4.trans (q5.mono y4.size)
  have hc5 := D5.out _ _ (hr.on y4') r5
  clear r5 D1 D2 D3 D4 D5
  have G17a := Lib.hid ((Blk.new w4 28 #[.string X.rid, .int .u32 (X.ssrc : Int), .int .i64 X.height]).alloc (.cells #[.iface 29 (.slice A k c), .iface 9 (.string s), .iface 2 (.int .i64 n), .iface 2 (.int .i64 m), .iface 28 x.val] 20))
  go_wp2_with fail
  refine hc5.mono ?_
  rintro e w5 ⟨A5, c5, rfl, r6, b5⟩
  have q6 := q5.trans (b5.mono q5.size)
  have G13b := Lib.hid (G13a.out.below q6 G13a.out.lt)
  have G17b := Lib.hid (G17a.out.below b5 G17a.out.lt)
  clear G13a G17a
  have y5 := y4'.trans (b5.mono y4'.size)
  clear hc5 b5 q6 q5 y4 y4' k8 l8 k15 l15 g8' g15
  have o5 := ownL_empty w5
  have ba5 := below_alloc w5 (.cells #[] 28)
  have hrm := hr.on (y5.trans (ba5.mono y5.size))
  have hbb : Hid (([] : List Lay).length + k ≤ 1000000) := Lib.hid (by simp; omega)
  have hb5 : w5.heap.size ≤ (w5.alloc (.cells #[] 28)).heap.size := by simp
  go_wp2_with (at_builtin; go_loud (with_reducible refine wpList_appendL rfl (.tmp 97) (.tmp 98) rfl rfl w5.heap.size (.slice (some ⟨w5.heap.size, 0, none⟩) 0 0) [] (by with_unfolding_all rfl) o5 _ A k c many (by with_unfolding_all rfl) hrm hbb.out hb5 ?_); intro v6 w6 ha6)
  simp only [List.nil_append] at ha6
  have q6 := below_grown ba5 hb5 ha6.2 fun k hk => (World.ownsRow.lt o5 k hk).1
  have o6 := ha6.1
  have z56 := q6.size
  have y6 := y5.trans (q6.mono y5.size)
  have H6 := Lib.hid r6
  have Q6 := Lib.hid q6
  have Y5 := Lib.hid y5
  have G13 := Lib.hid (G13b.out.below q6 G13b.out.lt)
  have G17 := Lib.hid (G17b.out.below q6 G17b.out.lt)
  clear G13b G17b
  have HM := Lib.hid (hr.on y6)
  have HX := Lib.hid hx
  obtain ⟨A6, c6, rfl, r7, _⟩ := o6.rl hr.2.1
  have HL := Lib.hid hr.1
  have O6 := Lib.hid o6
  have HI := Lib.hid hr.2.1
  have NX := Lib.hid hnX
  have NY := Lib.hid hnY
  clear ha6 q6 o6 r6 o5 ba5 hrm hbb hb5 r7 y5 hnX hnY hx hxs g8
  generalize w2.heap.size = p13 at *
  generalize w4.heap.size = p17 at *
  --LOOP1
  go_loopw [22, 102] (fun v i wr => ∃ q : Nat, q ≤ k ∧ i = .int .i64 q ∧ v = .int .i64 (whyT many q) ∧ Below w6.heap.size w6 wr) (fun _ i _ => k - (intOf i).toNat)
  case atStart => exact ⟨0, Nat.zero_le _, rfl, by rw [whyT_zero], Below.refl _ _⟩
  case round =>
    obtain ⟨q, hq, rfl, rfl, hb⟩ := hrel
    have hsz := hb.size
    by_cases hlt : q < k
    · have hql : q < many.length := by rw [HL.out]; exact hlt
      obtain ⟨b, off, hA, hbl, c0, c1, c2⟩ := HM.out.at hql
      have hxin := HI.out _ (List.getElem_mem hql)
      have d0 := (hb.cell (p := ⟨b, off + q * 3, none⟩) hbl).trans c0
      have d1 := (hb.cell (p := ⟨b, off + q * 3 + 1, none⟩) hbl).trans c1
      have d2 := (hb.cell (p := ⟨b, off + q * 3 + 2, none⟩) hbl).trans c2
      clear c0 c1 c2
      have hbl' : b < wr.heap.size := by omega
      have hD := fun (w : World) => law_layer many[q].rid (many[q].ssrc : Int) many[q].height w hxin.rid (by have := hxin.ssrc; unfold I64; omega) hxin.height
      rw [(l3_lay _ hxin).1, (l3_lay _ hxin).2] at hD
      have hyes := fun h => whyT_yes (l := many) hql h
      have hnot := fun h => whyT_no (l := many) hql h
      have hxs := hxin.ssrc
      generalize many[q] = y at d0 d1 d2 hD hyes hnot hxs
      have HT := Lib.hid hyes
      have HN := Lib.hid hnot
      have HOr := Lib.hid (whyT_or many q)
      clear hyes hnot hxin hql
      obtain ⟨t0, ht0⟩ : ∃ t, t = whyT many q := ⟨_, rfl⟩
      rw [← ht0] at HT HOr ⊢
      clear ht0
      subst hA
      by_cases hok : okL y = true
      · have HT' := Lib.hid (HT.out hok)
        rw [rgt_ok hok, rgE_ok hok] at hD
        clear HT HN hok HOr
        go_wp2_with fail
        refine (hD _).mono ?_
        rintro e w7 ⟨rfl, b7⟩
        have bA := below_alloc wr (.cells #[.string y.rid, .int .u32 (y.ssrc : Int), .int .i64 y.height] 28)
        have bX := hb.trans ((bA.trans (b7.mono bA.size)).mono hsz)
        have bY := bX.alloc bX.size (.cells #[.string y.rid, .int .u32 (y.ssrc : Int), .int .i64 y.height] 28)
        clear b7 bA bX hb
        go_wp2_with fail
        go_roundw
        case rel => exact ⟨q + 1, by omega, by go_num, by rw [HT'.out], bY⟩
        case measure => simp [intOf]; omega
      · have hok : okL y = false := by simpa using hok
        have HN' := Lib.hid (HN.out hok)
        rw [rgt_no hok, rgE_no hok] at hD
        clear HT HN hok
        rcases HOr.out with h0 | h0
        all_goals
          subst h0
          go_wp2_with fail
          refine (hD _).mono ?_
          rintro e w7 ⟨rfl, b7⟩
          have bA := below_alloc wr (.cells #[.string y.rid, .int .u32 (y.ssrc : Int), .int .i64 y.height] 28)
          have bX := hb.trans ((bA.trans (b7.mono bA.size)).mono hsz)
          have bY := bX.alloc bX.size (.cells #[.string ⟨#[]⟩, .int .u32 0, .int .i64 0] 28)
          clear b7 bA bX hb
          go_wp2_with fail
          go_roundw
          case rel => exact ⟨q + 1, by omega, by go_num, by rw [HN'.out], bY⟩
          case measure => simp [intOf]; omega
    · have hqk : q = k := by omega
      subst hqk
      rw [show whyT many q = eachE many by rw [← HL.out]; exact whyT_all many]
      generalize eachE many = E at HR ⊢
      clear HI hlt hq
      have b19 := hb.alloc hb.size (.cells #[.int .i64 F, .int .i64 H] 30)
      have g19 := Blk.new wr 30 #[.int .i64 F, .int .i64 H]
      have G19 := Lib.hid g19
      clear g19 hb
      go_wp2_with fail
      generalize wr.heap.size = p19 at G19 ⊢
      generalize wr.alloc (.cells #[.int .i64 F, .int .i64 H] 30) = w8 at b19 G19 ⊢
      go_loopw [22, 129] (fun v i wr => ∃ q : Nat, q ≤ 2 ∧ i = .int .i64 q ∧ v = .int .i64 (whyN E F H q) ∧ Below w6.heap.size w6 wr ∧ Hid (Blk wr p19 30 #[.int .i64 F, .int .i64 H])) (fun _ i _ => 2 - (intOf i).toNat)
      case atStart => exact ⟨0, Nat.zero_le _, rfl, rfl, b19, G19⟩
      case round =>
        clear b19 G19
        obtain ⟨j, hj, rfl, rfl, hb, GB⟩ := hrel
        have hsz := hb.size
        by_cases hlt : j < 2
        · have hv : ∃ v, wr.cell? ⟨p19, j, none⟩ = some (.int .i64 v) ∧ whyN E F H (j + 1) = if whyN E F H j = 0 then v else whyN E F H j := by
            match j, hlt with
            | 0, _ => exact ⟨F, GB.out.cell 0, whyN_one E F H⟩
            | 1, _ => exact ⟨H, GB.out.cell 1, whyN_two E F H⟩
          obtain ⟨v, hc, hw⟩ := hv
          have hp := GB.out.lt
          have HW := Lib.hid hw
          clear hw
          generalize whyN E F H j = t at HW ⊢
          by_cases ht : t = 0
          · subst ht
            have HW' := Lib.hid (HW.out.trans (if_pos rfl))
            clear HW
            go_wp2_with fail
            go_roundw
            case rel => exact ⟨j + 1, by omega, by go_num, by rw [HW'.out], hb, GB⟩
            case measure => simp [intOf]; omega
          · have HW' := Lib.hid (HW.out.trans (if_neg ht))
            have ht' : (t == 0) = false := by simpa using ht
            clear HW ht
            go_wp2_with fail
            go_roundw
            case rel => exact ⟨j + 1, by omega, by go_num, by rw [HW'.out], hb, GB⟩
            case measure => simp [intOf]; omega
        · have hj2 : j = 2 := by omega
          subst hj2
          clear GB hlt hj
          obtain ⟨t, ht⟩ : ∃ t, t = whyN E F H 2 := ⟨_, rfl⟩
          rw [← ht]
          have HRt : Hid (R = if (if t = 0 then (if q + 2 ≤ 3 then 0 else 3) else t) = 0 then (many ++ [Y, X], 0) else ([], if t = 0 then (if q + 2 ≤ 3 then 0 else 3) else t)) := Lib.hid (by
            rw [ht, ← HL.out]
            exact HR.out)
          clear HR ht
          have g13 := G13.out.below hb G13.out.lt
          have g17 := G17.out.below hb G17.out.lt
          have k13 := (blk3 g13).1
          have l13 := g13.lt
          have k17 := (blk3 g17).1
          have l17 := g17.lt
          have o9 := O6.out.on hb
          have r2 := rl_two wr Y X hYi hXi
          have ba := below_alloc wr (.cells #[.string Y.rid, .int .u32 (Y.ssrc : Int), .int .i64 Y.height, .string X.rid, .int .u32 (X.ssrc : Int), .int .i64 X.height] 28)
          have o10 := o9.on ba
          have hbb : Hid (many.length + 2 ≤ 1000000) := Lib.hid (by have := HL.out; omega)
          have hbs : w5.heap.size ≤ (wr.alloc (.cells #[.string Y.rid, .int .u32 (Y.ssrc : Int), .int .i64 Y.height, .string X.rid, .int .u32 (X.ssrc : Int), .int .i64 X.height] 28)).heap.size := by simp; omega
          have bz := (Q6.out.trans (hb.mono z56)).trans (ba.mono (Nat.le_trans z56 hsz))
          clear o9 ba hb g13 g17
          --APP
          have hI2 : ∀ z ∈ many ++ [Y, X], z.In := fun z hz => by
            rcases List.mem_append.1 hz with hz | hz
            · exact hr.2.1 z hz
            · simp only [List.mem_cons, List.not_mem_nil, or_false] at hz
              rcases hz with rfl | rfl
              · exact hYi
              · exact hXi
          have HI2 := Lib.hid hI2
          clear hI2
          go_upto_region 26 with (at_builtin; (with_reducible refine wpList_appendL rfl (.tmp 137) (.tmp 140) rfl rfl w5.heap.size (.slice A6 many.length c6) many (by with_unfolding_all rfl) o10 _ _ 2 2 [Y, X] (by with_unfolding_all rfl) r2 hbb.out hbs ?_); intro v9 w9 ha9; have b9 := below_grown bz hbs ha9.2 (fun k hk => (World.ownsRow.lt o10 k hk).1); obtain ⟨A9, c9, rfl, r9, _⟩ := ha9.1.rl HI2.out)
          have eL : (many ++ [Y, X]).length = q + 2 := by rw [List.length_append, HL.out]; rfl
          rw [eL] at r9
          rw [HL.out]
          have EL := Lib.hid eL
          clear eL o10 r2 hbb bz k13 k17 l13 l17 G13 G17 O6 HM HL HI2 ha9
          --END
          by_cases ht : t = 0
          · subst ht
            by_cases h3 : q + 2 ≤ 3
            · have eR : R = (many ++ [Y, X], 0) := by rw [HRt.out]; simp [h3]
              have e1 : R.1 = many ++ [Y, X] := by rw [eR]
              have e2 : R.2 = 0 := by rw [eR]
              have H7 := H6.out
              rw [e1, EL.out] at H7
              rw [e1, e2, EL.out]
              obtain ⟨N, hN⟩ : ∃ N, N = q + 2 := ⟨_, rfl⟩
              have EN : Hid ((many ++ [Y, X]).length = N) := Lib.hid (by rw [hN]; exact EL.out)
              rw [← hN] at r9 H7 h3 ⊢
              clear eR e1 e2 HRt H6 EL hN
              have H8 := Lib.hid (H7.below b9)
              have H9 := Lib.hid r9
              have hN3 : ¬ 3 < N := by omega
              clear H7 r9 h3
              generalize many ++ [Y, X] = LS at EN H8 H9
              go_wp2_with fail
              have hs59 := b9.size
              have y9 := Y5.out.trans (b9.mono Y5.out.size)
              clear b9 hN3
              go_loopw [171] (fun i wr => ∃ q : Nat, q ≤ N ∧ i = .int .i64 q ∧ Below w9.heap.size w9 wr) (fun i _ => N - (intOf i).toNat)
              case atStart => exact ⟨0, Nat.zero_le _, rfl, Below.refl _ _⟩
              case round =>
                obtain ⟨j, hj, rfl, hb⟩ := hrel
                have hsz := hb.size
                by_cases hlt : j < N
                · have hjl : j < LS.length := by rw [EN.out]; exact hlt
                  obtain ⟨u, o, hA, hbl, a0, a1, a2⟩ := (H8.out.more hs59).at hjl
                  obtain ⟨u', o', hA', hbl', a0', a1', a2'⟩ := H9.out.at hjl
                  have d0 := (hb.cell (p := ⟨u, o + j * 3, none⟩) hbl).trans a0
                  have d1 := (hb.cell (p := ⟨u, o + j * 3 + 1, none⟩) hbl).trans a1
                  have d2 := (hb.cell (p := ⟨u, o + j * 3 + 2, none⟩) hbl).trans a2
                  have d0' := (hb.cell (p := ⟨u', o' + j * 3, none⟩) hbl').trans a0'
                  have d1' := (hb.cell (p := ⟨u', o' + j * 3 + 1, none⟩) hbl').trans a1'
                  have d2' := (hb.cell (p := ⟨u', o' + j * 3 + 2, none⟩) hbl').trans a2'
                  clear a0 a1 a2 a0' a1' a2'
                  have hnz := fun W => neq_same LS[j] W
                  generalize LS[j] = z at d0 d1 d2 d0' d1' d2' hnz
                  have hj1 : (j : Int) < (N : Int) := by omega
                  have ul : u < wr.heap.size := by omega
                  have ul' : u' < wr.heap.size := by omega
                  clear hjl
                  subst hA hA'
                  go_wp2_with fail
                  go_quiet (fail)
                  have hb' := hb.trans ((belowN wr.heap.size wr nq).mono hsz)
                  clear hb d0 d1 d2 d0' d1' d2'
                  generalize wr.drewN nq = W at hb' ⊢
                  go_wp2_with fail
                  go_roundw
                  case rel => exact ⟨j + 1, by omega, by go_num, hb'⟩
                  case measure => simp [intOf]; omega
                · have hjn : j = N := by omega
                  subst hjn
                  clear H8 H9 EN hlt hj
                  go_wp2_with fail
                  go_ret
                  exact ⟨rfl, y9.trans (hb.mono y9.size)⟩
            · have eR : R = ([], 3) := by rw [HRt.out]; simp [h3]
              have e1 : R.1.length = 0 := by rw [eR]; rfl
              have e2 : R.2 = 3 := by rw [eR]
              rw [e1, e2]
              obtain ⟨N, hN⟩ : ∃ N, N = q + 2 := ⟨_, rfl⟩
              rw [← hN] at h3 ⊢
              have hN3 : 3 < N := by omega
              clear eR e1 e2 HRt H6 EL hN h3 r9
              go_wp2_with fail
              go_ret
              exact ⟨rfl, Y5.out.trans (b9.mono Y5.out.size)⟩
          · have eR : R = ([], t) := by rw [HRt.out]; simp [ht]
            have e1 : R.1.length = 0 := by rw [eR]; rfl
            have e2 : R.2 = t := by rw [eR]
            rw [e1, e2]
            have ht1 : (t == 0) = false := by simpa using ht
            have ht2 : (t != 0) = true := by simpa using ht
            clear eR e1 e2 HRt H6 EL ht r9
            go_wp2_with fail
            go_ret
            exact ⟨rfl, Y5.out.trans (b9.mono Y5.out.size)⟩
end Go.Proofs.Ytgopfoanhiedfaa
