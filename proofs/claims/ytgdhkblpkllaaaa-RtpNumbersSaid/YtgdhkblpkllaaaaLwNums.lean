/- The walk of layer 3's law RtpNumbers. -/
import Derived.Test.YtgdhkblpkllaaaaLwStart
import Derived.Test.YtgdhkblpkllaaaaLwSame
import Derived.Test.YtgdhkblpkllaaaaLwOdd
import Derived.Test.YtgdhkblpkllaaaaLwTape
import Derived.Test.YtgdhkblpkllaaaaAppZ
namespace Go.Proofs.Ytgdhkblpkllaaaa
open Go.RowKit
set_option linter.unusedVariables false
set_option linter.unusedSimpArgs false

theorem wpList_when {P : Program} {w : World} {ops : Array Oper} {rest : List Oper} {o : Oper} {a : Act} {Q : Exit → Act → World → Prop} (hw : Region.wanted o (yielded ops a.tmps) = true)
    (h : ∀ K : Act → World → Prop, (∀ a w, wpList P ops Q rest a w → K a w) → o.wp P a w K Q) : wpList P ops Q (o :: rest) a w :=
  wpList_step fun K hK => by rw [if_pos hw]; exact h K hK
theorem wpList_append8_w {w : World} {ops : Array Oper} {rest : List Oper} {o : Oper} {a : Act} {Q : Exit → Act → World → Prop} (hgd : Region.wanted o (yielded ops a.tmps) = true) (s x : Operand)
    (ho : o.op = .call { callee := .builtin .append, args := #[s, x], argTypes := #[25, 25] }) (hty : o.type = 25)
    (base : Nat) (v : Value) (l : List UInt8) (hs : a.eval s = v) (hown : Own8 w base v l)
    (B : Nat) (A : Option Addr) (m c : Nat) (r : List UInt8) (hx : a.eval x = .slice A m c) (hr : R8 w B A m c r)
    (hb : l.length + m ≤ 140737488355328) (hbase : base ≤ w.heap.size)
    (h : ∀ v' w', App8 w base v (l ++ r) v' w' → wpList Try.prog ops Q rest (a.put o.dst v') w') : wpList Try.prog ops Q (o :: rest) a w :=
  wpList_when hgd fun K hK => by
    obtain ⟨v', w', hrun, h2⟩ := run_append8 w base v l hown B A m c r hr hb hbase
    unfold Oper.wp execOp
    simp only [ho, hty, resolve, invoke, builtin, Sem.run_bind, Sem.run_pure, Result.andThen_ok, List.map_toArray, List.map_cons, List.map_nil, hs, hx, hrun]
    exact hK _ _ (h v' w' h2)
theorem wpList_append_zeros8_w {w : World} {ops : Array Oper} {rest : List Oper} {o : Oper} {a : Act} {Q : Exit → Act → World → Prop} (hgd : Region.wanted o (yielded ops a.tmps) = true) (s x : Operand)
    (ho : o.op = .call { callee := .builtin .append, args := #[s, x], argTypes := #[25, 3] })
    (base : Nat) (v : Value) (l : List UInt8) (hs : a.eval s = v) (hown : Own8 w base v l) (k : Nat) (hx : a.eval x = .int .i64 (k : Int)) (hk0 : 0 < k) (hk : l.length + k ≤ 1000000) (hbase : base ≤ w.heap.size)
    (h : ∀ v' w', App8 w base v (l ++ List.replicate k 0) v' w' → wpList Try.prog ops Q rest (a.put o.dst v') w') : wpList Try.prog ops Q (o :: rest) a w :=
  wpList_when hgd fun K hK => by
    obtain ⟨v', w', hrun, h2⟩ := run_append_zeros8 w base v l hown k hk0 hk hbase o.type
    unfold Oper.wp execOp
    simp only [ho, resolve, invoke, builtin, Sem.run_bind, Sem.run_pure, Result.andThen_ok, List.map_toArray, List.map_cons, List.map_nil, hs, hx, hrun]
    exact hK _ _ (h v' w' h2)
theorem u8_some (z : Int) : ∃ b : UInt8, IntKind.u8.wrap z = (b.toNat : Int) := by
  refine ⟨UInt8.ofNat (z % 256).toNat, ?_⟩
  show z % 256 = _
  simp
  omega
def tenN : Array Value := #[.int .i64 (-1), .int .i64 0, .int .i64 1, .int .i64 15, .int .i64 16, .int .i64 127, .int .i64 128, .int .i64 1200, .int .i64 1488, .int .i64 1489]
theorem tenN_at : ∀ i : Nat, i < 10 → ∃ x : Int, I64 x ∧ tenN[i]? = some (.int .i64 x) := by
  intro i hi
  match i, hi with
  | 0, _ => exact ⟨-1, by unfold I64; omega, rfl⟩
  | 1, _ => exact ⟨0, by unfold I64; omega, rfl⟩
  | 2, _ => exact ⟨1, by unfold I64; omega, rfl⟩
  | 3, _ => exact ⟨15, by unfold I64; omega, rfl⟩
  | 4, _ => exact ⟨16, by unfold I64; omega, rfl⟩
  | 5, _ => exact ⟨127, by unfold I64; omega, rfl⟩
  | 6, _ => exact ⟨128, by unfold I64; omega, rfl⟩
  | 7, _ => exact ⟨1200, by unfold I64; omega, rfl⟩
  | 8, _ => exact ⟨1488, by unfold I64; omega, rfl⟩
  | 9, _ => exact ⟨1489, by unfold I64; omega, rfl⟩
set_option maxRecDepth 100000 in
set_option maxHeartbeats 3000000 in
theorem rtpNumbers_walk (w : World) : Calls Try.prog 3 #[] w (Yes w) := by
  go_enter Try.func3, Try.ntmps3
  go_wp2_with fail
  go_loopw [1] (fun i wr => ∃ k : Nat, k ≤ 60 ∧ i = .int .i64 (k : Int) ∧ Below w.heap.size w wr) (fun i _ => 60 - (intOf i).toNat)
  case atStart => exact ⟨0, by omega, rfl, Below.refl _ _⟩
  case round =>
    obtain ⟨k, hk, rfl, hb⟩ := hrel
    by_cases hlt : k < 60
    rotate_left
    · have g3 : ¬ (k : Int) < 60 := by omega
      have hmk : ∀ W : World, (Instr.makeSlice 25 (.int .i64 1501) (.int .i64 1501)).run Try.prog W = .ok (.slice (some ⟨W.heap.size, 0, none⟩) 1501 1501) (W.alloc (.cells (zl 1501).toArray 5)) := fun W => run_make8 1501 (by omega) W
      go_wp2_with fail
      have bz := (Below.refl _ wr).alloc (Nat.le_refl _) (.cells (zl 1501).toArray 5)
      have b1 := hb.trans (bz.mono hb.size)
      refine (law_reads _ _ _ _ _ (new8_at wr 1501 wr.heap.size rfl) (by omega)).mono ?_
      rintro e w5 ⟨rfl, b5⟩
      have b2 := b1.trans (b5.mono b1.size)
      have hl5 := own8_lit w5 w5.heap.size [128] #[.int .u8 128] 1 rfl rfl (Nat.le_refl _) (by omega)
      clear b5 bz b1 hb hmk
      go_wp2_with (at_builtin; (go_loud (with_reducible refine wpList_append_zeros8_w (by with_unfolding_all rfl) (.tmp 101) (.const (.int .i64 1499)) rfl w5.heap.size (.slice (some ⟨w5.heap.size, 0, none⟩) 1 1) [128] (by with_unfolding_all rfl) hl5 1499 (by with_unfolding_all rfl) (by omega) (by decide) (by simp) ?_); intro v6 w6 ha6))
      have bz := ha6.below ((Below.refl _ w5).alloc (Nat.le_refl _) _) (by simp) hl5 (Nat.le_refl _)
      have b3 := b2.trans (bz.mono b2.size)
      obtain ⟨A6, c6, rfl, r6⟩ := ha6.1.r8
      have e6 : ([128] ++ List.replicate 1499 (0 : UInt8) : List UInt8).length = 1500 := by simp
      rw [e6] at r6
      try rw [e6]
      clear bz b2 hl5 ha6 e6
      refine (law_reads _ _ _ _ _ r6 (by omega)).mono ?_
      rintro e w7 ⟨rfl, b7⟩
      have b4 := b3.trans (b7.mono b3.size)
      clear b7 b3 r6
      go_wp2_with fail
      refine (known_yes _).mono ?_
      rintro e w8 ⟨rfl, b8⟩
      have b5 := b4.trans (b8.mono b4.size)
      clear b8 b4
      go_wp2_with fail
      go_ret
      exact ⟨rfl, b5⟩
    · have g3 : (k : Int) < 60 := by omega
      go_wp2_with fail
      refine (law_tape k hk _).mono ?_
      rintro e w1 ⟨A, c, rfl, hr, bz⟩
      have b1 := hb.trans (bz.mono hb.size)
      have hT := tape_at hr (by omega)
      have bt := (Below.refl _ w1).alloc (Nat.le_refl _) (.cells #[.slice A 400 c, .int .i64 0] 32)
      clear bz hr hb
      go_wp2_with fail
      refine (tape_rtp _ _ hT).mono ?_
      rintro e w2 ⟨p, A1, c1, A2, c2, A3, c3, rfl, hI, hr, t1, t2, t3, hm⟩
      have bz := bt.trans hm.below
      have b2 := b1.trans (bz.mono b1.size)
      clear hT bt hm bz b1
      simp only [Pkt.val]
      have hrh := Lib.hid hr
      have hsz := Lib.hid (show p.size ≤ 200 by unfold Pkt.size; split <;> omega)
      have hs12 := Lib.hid (show 12 ≤ p.size by unfold Pkt.size; omega)
      have hbl := Lib.hid (show p.bytes.length = p.size from p.bytes_len (p.ok_of hr).pe)
      have hxl := Lib.hid (show p.ext.length ≤ 100000 by omega)
      clear hr t1 t2 t3
      go_upto_region 5 with (fail)
      have hP := Blk.new w2 27 #[.bool p.m, .int .i64 p.ty, .int .u16 (p.seq : Int), .int .u32 (p.time : Int), .int .u32 (p.ssrc : Int), .slice A1 p.csrc.length c1, .int .u16 (p.prof : Int), .slice A2 p.ext.length c2, .slice A3 p.pay.length c3]
      have bz := (Below.refl _ w2).alloc (Nat.le_refl _) (.cells #[.bool p.m, .int .i64 p.ty, .int .u16 (p.seq : Int), .int .u32 (p.time : Int), .int .u32 (p.ssrc : Int), .slice A1 p.csrc.length c1, .int .u16 (p.prof : Int), .slice A2 p.ext.length c2, .slice A3 p.pay.length c3] 27)
      have b3 := b2.trans (bz.mono b2.size)
      have hI := hI.on bz
      clear bz b2
      generalize w2.alloc (.cells #[.bool p.m, .int .i64 p.ty, .int .u16 (p.seq : Int), .int .u32 (p.time : Int), .int .u32 (p.ssrc : Int), .slice A1 p.csrc.length c1, .int .u16 (p.prof : Int), .slice A2 p.ext.length c2, .slice A3 p.pay.length c3] 27) = W at hP b3 hI ⊢
      generalize w2.heap.size = P at hP ⊢
      have hPl := hP.lt
      go_wp2_with fail
      go_loopw [3] (fun i wr => ∃ q : Nat, q ≤ 6 ∧ i = .int .i64 (q : Int) ∧ Below W.heap.size W wr) (fun i _ => 6 - (intOf i).toNat)
      case atStart => exact ⟨0, by omega, rfl, Below.refl _ _⟩
      case round =>
        obtain ⟨q, hq, rfl, hbq⟩ := hrel
        by_cases hlq : q < 6
        · have g4 : (q : Int) < 6 := by omega
          go_wp2_with fail
          have hNc : ∀ i : Nat, i < 10 → ∃ x : Int, I64 x ∧ (wr.alloc (.cells #[.int .i64 (-1), .int .i64 0, .int .i64 1, .int .i64 15, .int .i64 16, .int .i64 127, .int .i64 128, .int .i64 1200, .int .i64 1488, .int .i64 1489] 3)).cell? ⟨wr.heap.size, i, none⟩ = some (.int .i64 x) := by
            intro i hi
            obtain ⟨x, hx, hc⟩ := tenN_at i hi
            exact ⟨x, hx, ((Blk.new wr 3 tenN).cell i).trans hc⟩
          have bz := hbq.alloc hbq.size (.cells #[.int .i64 (-1), .int .i64 0, .int .i64 1, .int .i64 15, .int .i64 16, .int .i64 127, .int .i64 128, .int .i64 1200, .int .i64 1488, .int .i64 1489] 3)
          have hBl : wr.heap.size < (wr.alloc (.cells #[.int .i64 (-1), .int .i64 0, .int .i64 1, .int .i64 15, .int .i64 16, .int .i64 127, .int .i64 128, .int .i64 1200, .int .i64 1488, .int .i64 1489] 3)).heap.size := by simp
          clear hbq
          generalize wr.alloc (.cells #[.int .i64 (-1), .int .i64 0, .int .i64 1, .int .i64 15, .int .i64 16, .int .i64 127, .int .i64 128, .int .i64 1200, .int .i64 1488, .int .i64 1489] 3) = V at hNc bz hBl ⊢
          generalize wr.heap.size = B at hNc hBl ⊢
          go_loopw [26] (fun i wr => ∃ r : Nat, r ≤ 10 ∧ i = .int .i64 (r : Int) ∧ Below V.heap.size V wr) (fun i _ => 10 - (intOf i).toNat)
          case atStart => exact ⟨0, by omega, rfl, Below.refl _ _⟩
          case round =>
            obtain ⟨r, hr10, rfl, hbr⟩ := hrel
            have bV := bz.trans (hbr.mono bz.size)
            by_cases hlr : r < 10
            · have g5 : (r : Int) < 10 := by omega
              obtain ⟨x, hx, hcx⟩ := hNc r hlr
              have hcx := (hbr.cell (p := ⟨B, r, none⟩) hBl).trans hcx
              have hIr := hI.on bV
              obtain ⟨k0, k1, k2, k3, k4, k5, k6, k7, k8⟩ := blk9 (hP.below bV hPl)
              go_wp2_with fail
              clear k0 k1 k2 k3 k4 k5 k6 k7 k8 hcx
              refine (show Calls _ _ #[.agg #[.bool p.m, .int .i64 p.ty, .int .u16 (p.seq : Int), .int .u32 (p.time : Int), .int .u32 (p.ssrc : Int), .slice A1 p.csrc.length c1, .int .u16 (p.prof : Int), .slice A2 p.ext.length c2, .slice A3 p.pay.length c3], .int .i64 (q : Int), .int .i64 x] _ _ from law_odd p A1 c1 A2 c2 A3 c3 (q : Int) x _ hIr (by unfold I64; omega) hx hxl.out).mono ?_
              rintro e w5 ⟨r', C1, e1, C2, e2, C3, e3, rfl, hR, b5, _⟩
              simp only [Pkt.val]
              go_wp2_with fail
              refine (show Calls _ _ #[.agg #[.bool r'.m, .int .i64 r'.ty, .int .u16 (r'.seq : Int), .int .u32 (r'.time : Int), .int .u32 (r'.ssrc : Int), .slice C1 r'.csrc.length e1, .int .u16 (r'.prof : Int), .slice C2 r'.ext.length e2, .slice C3 r'.pay.length e3]] _ _ from law_same r' C1 e1 C2 e2 C3 e3 _ hR).mono ?_
              rintro e w6 ⟨rfl, b6⟩
              have bb := b5.trans (b6.mono b5.size)
              have hbr6 := hbr.trans (bb.mono hbr.size)
              have bV6 := bz.trans (hbr6.mono bz.size)
              have hI6 := hI.on bV6
              clear hR b5 b6 bb hIr bV hbr
              obtain ⟨k0, k1, k2, k3, k4, k5, k6, k7, k8⟩ := blk9 (hP.below bV6 hPl)
              go_wp2_with fail
              clear k0 k1 k2 k3 k4 k5 k6 k7 k8
              refine (show Calls _ _ #[.agg #[.bool p.m, .int .i64 p.ty, .int .u16 (p.seq : Int), .int .u32 (p.time : Int), .int .u32 (p.ssrc : Int), .slice A1 p.csrc.length c1, .int .u16 (p.prof : Int), .slice A2 p.ext.length c2, .slice A3 p.pay.length c3]] _ _ from law_same p A1 c1 A2 c2 A3 c3 _ hI6).mono ?_
              rintro e w7 ⟨rfl, b7⟩
              have hbr7 := hbr6.trans (b7.mono hbr6.size)
              clear b7 hI6 bV6 hbr6
              go_wp2_with fail
              go_roundw
              case rel => exact ⟨r + 1, by omega, by push_cast; rfl, hbr7⟩
              case measure => simp [intOf]; omega
            · have g5 : ¬ (r : Int) < 10 := by omega
              clear hbr hNc
              go_wp2_with fail
              go_roundw
              case rel => exact ⟨q + 1, by omega, by push_cast; rfl, bV⟩
              case measure => simp [intOf]; omega
        · have g4 : ¬ (q : Int) < 6 := by omega
          have hIr := hI.on hbq
          obtain ⟨k0, k1, k2, k3, k4, k5, k6, k7, k8⟩ := blk9 (hP.below hbq hPl)
          go_wp2_with fail
          clear k0 k1 k2 k3 k4 k5 k6 k7 k8
          refine (show Calls _ _ #[.agg #[.bool p.m, .int .i64 p.ty, .int .u16 (p.seq : Int), .int .u32 (p.time : Int), .int .u32 (p.ssrc : Int), .slice A1 p.csrc.length c1, .int .u16 (p.prof : Int), .slice A2 p.ext.length c2, .slice A3 p.pay.length c3]] _ _ from ref_bytes p A1 c1 A2 c2 A3 c3 _ hIr).mono ?_
          rintro e w5 ⟨hy, _⟩
          obtain ⟨v5, rfl, ho5, b5⟩ := hy hrh.out
          obtain ⟨A4, c4, rfl, r4⟩ := ho5.r8
          have bW := hbq.trans (b5.mono hbq.size)
          have b5 := b3.trans (bW.mono b3.size)
          obtain ⟨L, hL⟩ : ∃ L, p.bytes.length = L := ⟨_, rfl⟩
          have hL12 : 12 ≤ L := by have := hbl.out; have := hs12.out; omega
          have hL200 : L ≤ 200 := by have := hbl.out; have := hsz.out; omega
          rw [hL] at r4 ⊢
          generalize p.bytes = lb at r4
          clear hy ho5 bW hIr hbq hI hP hPl b3 hL hrh hsz hs12 hbl hxl
          have hcA := r4.2.1
          go_wp2_with fail
          go_loopw [8] (fun i wr => ∃ r : Nat, r ≤ L + 1 ∧ i = .int .i64 (r : Int) ∧ Below w5.heap.size w5 wr) (fun i _ => L + 1 - (intOf i).toNat)
          case atStart => exact ⟨0, by omega, rfl, Below.refl _ _⟩
          case round =>
            obtain ⟨r, hrL, rfl, hbr⟩ := hrel
            by_cases hgo : r ≤ L ∧ k < 20
            · obtain ⟨h1, h2⟩ := hgo
              have g5 : decide ((r : Int) ≤ (L : Int)) = true := by simp; omega
              have g6 : decide ((k : Int) < 20) = true := by simp; omega
              have hcut := fun W => run_cut_hi W A4 L c4 r (by omega)
              have rr := (r4.on hbr).take_ r h1
              go_wp2_with fail
              refine (law_reads A4 r c4 _ _ rr (by omega)).mono ?_
              rintro e w6 ⟨rfl, b6⟩
              have hbr6 := hbr.trans (b6.mono hbr.size)
              clear b6 rr hcut hbr
              go_wp2_with fail
              go_roundw
              case rel => exact ⟨r + 1, by omega, by push_cast; rfl, hbr6⟩
              case measure => simp [intOf]; omega
            · have bX := b5.trans (hbr.mono b5.size)
              have r4 := r4.on hbr
              by_cases h1 : r ≤ L
              · have g5 : decide ((r : Int) ≤ (L : Int)) = true := by simp; omega
                have g6 : decide ((k : Int) < 20) = false := by simp; omega
                go_wp2_with fail
                go_loopw [9] (fun i wr => ∃ f : Nat, f ≤ 300 ∧ i = .int .i64 (f : Int) ∧ Below w.heap.size w wr ∧ R8 wr wr.heap.size A4 L c4 lb) (fun i _ => 300 - (intOf i).toNat)
                case atStart => exact ⟨0, by omega, rfl, bX, r4⟩
                case round =>
                  clear bX r4 hbr
                  obtain ⟨f, hf, rfl, bX, r4⟩ := hrel
                  by_cases hlf : f < 256
                  · have g7 : (f : Int) < 256 := by omega
                    have hlL := r4.1
                    have ro := r4.alloc (Nat.le_refl _) (.cells #[] 5)
                    have oe := Own8.empty wr wr.heap.size (Nat.le_refl _)
                    have hbb : ([] : List UInt8).length + L ≤ 140737488355328 := by simp; omega
                    go_upto_region 24 with (at_builtin; (with_reducible refine wpList_append8 rfl (.tmp 69) (.tmp 70) rfl rfl wr.heap.size (.slice (some ⟨wr.heap.size, 0, none⟩) 0 0) [] (by with_unfolding_all rfl) oe wr.heap.size A4 L c4 lb (by with_unfolding_all rfl) ro hbb (by simp) ?_); intro v7 w7 ha7)
                    have bz := ha7.below ((Below.refl wr.heap.size wr).alloc (Nat.le_refl _) _) (by simp) oe (Nat.le_refl _)
                    have o7 : Own8 w7 wr.heap.size v7 lb := by have := ha7.1; simpa using this
                    obtain ⟨g, c7, rfl, hg1, hg2, hfz, hcell⟩ := o7.some (by omega)
                    rw [hlL] at o7 hcell ⊢
                    have gf : (f : Int) % 256 = f := by omega
                    have gL : (0 : Int) < (L : Int) := by omega
                    have k0 : w7.cell? ⟨g, 0, none⟩ = some (.int .u8 ((lb.getD 0 0).toNat : Int)) := hcell 0 (by omega)
                    have z0 := hfz 0
                    clear ha7 ro oe hbb
                    go_upto_region 25 with (fail)
                    have hx : ((UInt8.ofNat f).toNat : Int) = (f : Int) := by simp; omega
                    have o9 := o7.setAt (i := 0) (by omega) (UInt8.ofNat f)
                    rw [hx] at o9
                    have bz := Below.setCell bz (p := ⟨g, 0, none⟩) hg1 (.int .u8 (f : Int))
                    obtain ⟨g', c9, hv9, _, _, hfz9, hcell9⟩ := o9.some (by rw [List.length_set]; omega)
                    injection hv9 with e1 e2 e3
                    injection e1 with e1
                    injection e1 with e1 _ _
                    subst e1 e3
                    have kL := hcell9 (L - 1) (by rw [List.length_set]; omega)
                    have zL := hfz9 (L - 1)
                    generalize (lb.set 0 (UInt8.ofNat f)).getD (L - 1) 0 = yy at kL
                    clear o7 hcell hfz k0 z0 hx e2 hcell9 hfz9
                    generalize w7.setCell ⟨g, 0, none⟩ (.int .u8 (f : Int)) = W9 at o9 bz kL zL ⊢
                    obtain ⟨m, hm9, hm⟩ : ∃ m : Nat, m ≤ 15360 ∧ (k : Int) * (f : Int) = (m : Int) := ⟨k * f, by have := Nat.mul_le_mul hk (show f ≤ 256 by omega); omega, by push_cast; rfl⟩
                    obtain ⟨y, hy9, hm2⟩ : ∃ y : Nat, y < 256 ∧ (m : Int) % 256 = (y : Int) := ⟨m % 256, by omega, by omega⟩
                    have gi : ((L : Int) - 1).toNat = L - 1 := by omega
                    have g1 : (L : Int) - 1 < (L : Int) := by omega
                    have g2 : (0 : Int) ≤ (L : Int) - 1 := by omega
                    go_upto_region 26 with (fail)
                    have o10 := o9.setAt (i := L - 1) (by rw [List.length_set]; omega) (UInt8.ofNat y)
                    have hxy : ((UInt8.ofNat y).toNat : Int) = (y : Int) := by simp; omega
                    rw [hxy] at o10
                    have bz := Below.setCell bz (p := ⟨g, L - 1, none⟩) hg1 (.int .u8 (y : Int))
                    clear o9 kL zL gi g1 g2 gf
                    generalize W9.setCell ⟨g, L - 1, none⟩ (.int .u8 (y : Int)) = W10 at o10 bz ⊢
                    have hll : ((lb.set 0 (UInt8.ofNat f)).set (L - 1) (UInt8.ofNat y)).length = L := by rw [List.length_set, List.length_set]; exact hlL
                    generalize (lb.set 0 (UInt8.ofNat f)).set (L - 1) (UInt8.ofNat y) = lx at o10 hll
                    clear hm hm2 hxy
                    have r10 : R8 W10 W10.heap.size (some ⟨g, 0, none⟩) L c7 lx := by
                      obtain ⟨A', c', hv, hr⟩ := o10.r8
                      injection hv with e1 e2 e3
                      subst e1 e3
                      rwa [hll] at hr
                    obtain ⟨d7, hd7, hd⟩ := and_low (f : Int) 7 (by omega)
                    have hd : bits BinOp.and .i64 (f : Int) 7 = (d7 : Int) := hd
                    have hd8 : (d7 : Int) % 256 = (d7 : Int) := by omega
                    have hdu : (d7 : Int) = ((UInt8.ofNat d7).toNat : Int) := by simp; omega
                    have hduh := Lib.hid hdu
                    have hbb2 := Lib.hid (show lx.length + 1 ≤ 140737488355328 by omega)
                    have hsz10 := bz.size
                    clear hdu
                    go_wp2_with fail
                    refine (law_reads _ _ _ _ _ r10 (by omega)).mono ?_
                    rintro e w11 ⟨rfl, b11⟩
                    have o11 := Own8.keepB o10 b11
                    have bz := bz.trans (b11.mono bz.size)
                    have hsz11 := bz.size
                    have o11a := o11.alloc (.cells #[.int .u8 (d7 : Int)] 5)
                    clear b11 r10 o10 hsz10
                    go_wp2_with (at_builtin; (go_loud (with_reducible refine wpList_append8_w (by with_unfolding_all rfl) (.tmp 89) (.tmp 93) rfl rfl wr.heap.size (.slice (some ⟨g, 0, none⟩) L c7) lx (by with_unfolding_all rfl) o11a (w11.heap.size + 1) _ 1 1 [UInt8.ofNat d7] (by with_unfolding_all rfl) (one_r8 w11 _ _ hduh.out) hbb2.out (le_alloc hsz11 _) ?_); intro v12 w12 ha12))
                    have bz := ha12.below (bz.alloc hsz11 _) (le_alloc hsz11 _) o11a (Nat.le_refl _)
                    obtain ⟨A12, c12, rfl, r12⟩ := ha12.1.r8
                    have e12 : (lx ++ [UInt8.ofNat d7]).length = L + 1 := by rw [List.length_append, hll]; rfl
                    rw [e12] at r12
                    try rw [e12]
                    clear ha12 o11 o11a e12 hsz11
                    refine (law_reads _ _ _ _ _ r12 (by omega)).mono ?_
                    rintro e w13 ⟨rfl, b13⟩
                    have bz := bz.trans (b13.mono bz.size)
                    have bY := bX.trans (bz.mono bX.size)
                    have rY := r4.on bz
                    clear b13 r12 bz bX r4
                    have hd3 : Int.tmod (k : Int) 3 = ((k % 3 : Nat) : Int) := rfl
                    go_wp2_with fail
                    go_roundw
                    case rel => exact ⟨f + 1 + k % 3, by omega, by first | rfl | (congr 1; omega) | (congr 1; push_cast; omega), bY, rY⟩
                    case measure => simp [intOf]; omega
                  · have g7 : ¬ (f : Int) < 256 := by omega
                    clear r4
                    go_wp2_with fail
                    go_roundw
                    case rel => exact ⟨k + 1, by omega, by push_cast; rfl, bX⟩
                    case measure => simp [intOf]; omega
              · have g5 : decide ((r : Int) ≤ (L : Int)) = false := by simp; omega
                go_wp2_with fail
                go_loopw [9] (fun i wr => ∃ f : Nat, f ≤ 300 ∧ i = .int .i64 (f : Int) ∧ Below w.heap.size w wr ∧ R8 wr wr.heap.size A4 L c4 lb) (fun i _ => 300 - (intOf i).toNat)
                case atStart => exact ⟨0, by omega, rfl, bX, r4⟩
                case round =>
                  clear bX r4 hbr
                  obtain ⟨f, hf, rfl, bX, r4⟩ := hrel
                  by_cases hlf : f < 256
                  · have g7 : (f : Int) < 256 := by omega
                    have hlL := r4.1
                    have ro := r4.alloc (Nat.le_refl _) (.cells #[] 5)
                    have oe := Own8.empty wr wr.heap.size (Nat.le_refl _)
                    have hbb : ([] : List UInt8).length + L ≤ 140737488355328 := by simp; omega
                    go_upto_region 24 with (at_builtin; (with_reducible refine wpList_append8 rfl (.tmp 69) (.tmp 70) rfl rfl wr.heap.size (.slice (some ⟨wr.heap.size, 0, none⟩) 0 0) [] (by with_unfolding_all rfl) oe wr.heap.size A4 L c4 lb (by with_unfolding_all rfl) ro hbb (by simp) ?_); intro v7 w7 ha7)
                    have bz := ha7.below ((Below.refl wr.heap.size wr).alloc (Nat.le_refl _) _) (by simp) oe (Nat.le_refl _)
                    have o7 : Own8 w7 wr.heap.size v7 lb := by have := ha7.1; simpa using this
                    obtain ⟨g, c7, rfl, hg1, hg2, hfz, hcell⟩ := o7.some (by omega)
                    rw [hlL] at o7 hcell ⊢
                    have gf : (f : Int) % 256 = f := by omega
                    have gL : (0 : Int) < (L : Int) := by omega
                    have k0 : w7.cell? ⟨g, 0, none⟩ = some (.int .u8 ((lb.getD 0 0).toNat : Int)) := hcell 0 (by omega)
                    have z0 := hfz 0
                    clear ha7 ro oe hbb
                    go_upto_region 25 with (fail)
                    have hx : ((UInt8.ofNat f).toNat : Int) = (f : Int) := by simp; omega
                    have o9 := o7.setAt (i := 0) (by omega) (UInt8.ofNat f)
                    rw [hx] at o9
                    have bz := Below.setCell bz (p := ⟨g, 0, none⟩) hg1 (.int .u8 (f : Int))
                    obtain ⟨g', c9, hv9, _, _, hfz9, hcell9⟩ := o9.some (by rw [List.length_set]; omega)
                    injection hv9 with e1 e2 e3
                    injection e1 with e1
                    injection e1 with e1 _ _
                    subst e1 e3
                    have kL := hcell9 (L - 1) (by rw [List.length_set]; omega)
                    have zL := hfz9 (L - 1)
                    generalize (lb.set 0 (UInt8.ofNat f)).getD (L - 1) 0 = yy at kL
                    clear o7 hcell hfz k0 z0 hx e2 hcell9 hfz9
                    generalize w7.setCell ⟨g, 0, none⟩ (.int .u8 (f : Int)) = W9 at o9 bz kL zL ⊢
                    obtain ⟨m, hm9, hm⟩ : ∃ m : Nat, m ≤ 15360 ∧ (k : Int) * (f : Int) = (m : Int) := ⟨k * f, by have := Nat.mul_le_mul hk (show f ≤ 256 by omega); omega, by push_cast; rfl⟩
                    obtain ⟨y, hy9, hm2⟩ : ∃ y : Nat, y < 256 ∧ (m : Int) % 256 = (y : Int) := ⟨m % 256, by omega, by omega⟩
                    have gi : ((L : Int) - 1).toNat = L - 1 := by omega
                    have g1 : (L : Int) - 1 < (L : Int) := by omega
                    have g2 : (0 : Int) ≤ (L : Int) - 1 := by omega
                    go_upto_region 26 with (fail)
                    have o10 := o9.setAt (i := L - 1) (by rw [List.length_set]; omega) (UInt8.ofNat y)
                    have hxy : ((UInt8.ofNat y).toNat : Int) = (y : Int) := by simp; omega
                    rw [hxy] at o10
                    have bz := Below.setCell bz (p := ⟨g, L - 1, none⟩) hg1 (.int .u8 (y : Int))
                    clear o9 kL zL gi g1 g2 gf
                    generalize W9.setCell ⟨g, L - 1, none⟩ (.int .u8 (y : Int)) = W10 at o10 bz ⊢
                    have hll : ((lb.set 0 (UInt8.ofNat f)).set (L - 1) (UInt8.ofNat y)).length = L := by rw [List.length_set, List.length_set]; exact hlL
                    generalize (lb.set 0 (UInt8.ofNat f)).set (L - 1) (UInt8.ofNat y) = lx at o10 hll
                    clear hm hm2 hxy
                    have r10 : R8 W10 W10.heap.size (some ⟨g, 0, none⟩) L c7 lx := by
                      obtain ⟨A', c', hv, hr⟩ := o10.r8
                      injection hv with e1 e2 e3
                      subst e1 e3
                      rwa [hll] at hr
                    obtain ⟨d7, hd7, hd⟩ := and_low (f : Int) 7 (by omega)
                    have hd : bits BinOp.and .i64 (f : Int) 7 = (d7 : Int) := hd
                    have hd8 : (d7 : Int) % 256 = (d7 : Int) := by omega
                    have hdu : (d7 : Int) = ((UInt8.ofNat d7).toNat : Int) := by simp; omega
                    have hduh := Lib.hid hdu
                    have hbb2 := Lib.hid (show lx.length + 1 ≤ 140737488355328 by omega)
                    have hsz10 := bz.size
                    clear hdu
                    go_wp2_with fail
                    refine (law_reads _ _ _ _ _ r10 (by omega)).mono ?_
                    rintro e w11 ⟨rfl, b11⟩
                    have o11 := Own8.keepB o10 b11
                    have bz := bz.trans (b11.mono bz.size)
                    have hsz11 := bz.size
                    have o11a := o11.alloc (.cells #[.int .u8 (d7 : Int)] 5)
                    clear b11 r10 o10 hsz10
                    go_wp2_with (at_builtin; (go_loud (with_reducible refine wpList_append8_w (by with_unfolding_all rfl) (.tmp 89) (.tmp 93) rfl rfl wr.heap.size (.slice (some ⟨g, 0, none⟩) L c7) lx (by with_unfolding_all rfl) o11a (w11.heap.size + 1) _ 1 1 [UInt8.ofNat d7] (by with_unfolding_all rfl) (one_r8 w11 _ _ hduh.out) hbb2.out (le_alloc hsz11 _) ?_); intro v12 w12 ha12))
                    have bz := ha12.below (bz.alloc hsz11 _) (le_alloc hsz11 _) o11a (Nat.le_refl _)
                    obtain ⟨A12, c12, rfl, r12⟩ := ha12.1.r8
                    have e12 : (lx ++ [UInt8.ofNat d7]).length = L + 1 := by rw [List.length_append, hll]; rfl
                    rw [e12] at r12
                    try rw [e12]
                    clear ha12 o11 o11a e12 hsz11
                    refine (law_reads _ _ _ _ _ r12 (by omega)).mono ?_
                    rintro e w13 ⟨rfl, b13⟩
                    have bz := bz.trans (b13.mono bz.size)
                    have bY := bX.trans (bz.mono bX.size)
                    have rY := r4.on bz
                    clear b13 r12 bz bX r4
                    have hd3 : Int.tmod (k : Int) 3 = ((k % 3 : Nat) : Int) := rfl
                    go_wp2_with fail
                    go_roundw
                    case rel => exact ⟨f + 1 + k % 3, by omega, by first | rfl | (congr 1; omega) | (congr 1; push_cast; omega), bY, rY⟩
                    case measure => simp [intOf]; omega
                  · have g7 : ¬ (f : Int) < 256 := by omega
                    clear r4
                    go_wp2_with fail
                    go_roundw
                    case rel => exact ⟨k + 1, by omega, by push_cast; rfl, bX⟩
                    case measure => simp [intOf]; omega
end Go.Proofs.Ytgdhkblpkllaaaa
