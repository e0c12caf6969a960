/- Contract: rtp.Bytes. -/
import Derived.Test.YtpcdmcaojgpfoaaCRHead
import Derived.Test.YtpcdmcaojgpfoaaCRLen
import Derived.Test.YtpcdmcaojgpfoaaCRConcat
namespace Go.Proofs.Ytpcdmcaojgpfoaa
open Go.RowKit
set_option linter.unusedVariables false
set_option linter.unusedSimpArgs false
set_option maxRecDepth 20000

set_option maxHeartbeats 1500000 in
theorem rtp_bytes (p : Pkt) (A1 : Option Addr) (c1 : Nat) (A2 : Option Addr) (c2 : Nat) (A3 : Option Addr) (c3 : Nat) (w : World) (hp : IsP w w.heap.size A1 c1 A2 c2 A3 c3 p) :
    Calls Try.prog 36 #[p.val A1 c1 A2 c2 A3 c3] w (RBOut p w) := by
  have hr := fun W => rtp_right p A1 c1 A2 c2 A3 c3 W hp.kinds
  have hhd := fun W h0 => rtp_head p A1 c1 A2 c2 A3 c3 W hp.kinds h0
  have hno := fun (w' : World) e (h : p.right ≠ 0) he hb => @RBOut.no p w w' e h he hb
  simp only [Pkt.val] at hr hhd ⊢
  have hZ : Blk (w.alloc (.cells #[.bool p.m, .int .i64 p.ty, .int .u16 (p.seq : Int), .int .u32 (p.time : Int), .int .u32 (p.ssrc : Int), .slice A1 p.csrc.length c1, .int .u16 (p.prof : Int), .slice A2 p.ext.length c2, .slice A3 p.pay.length c3] 28)) w.heap.size 28 #[.bool p.m, .int .i64 p.ty, .int .u16 (p.seq : Int), .int .u32 (p.time : Int), .int .u32 (p.ssrc : Int), .slice A1 p.csrc.length c1, .int .u16 (p.prof : Int), .slice A2 p.ext.length c2, .slice A3 p.pay.length c3] := Blk.new _ _ _
  have hb : Below w.heap.size w (w.alloc (.cells #[.bool p.m, .int .i64 p.ty, .int .u16 (p.seq : Int), .int .u32 (p.time : Int), .int .u32 (p.ssrc : Int), .slice A1 p.csrc.length c1, .int .u16 (p.prof : Int), .slice A2 p.ext.length c2, .slice A3 p.pay.length c3] 28)) := (Below.refl _ w).alloc (Nat.le_refl _) _
  have hlt := hZ.lt
  go_enter Try.func36, Try.ntmps36
  by_cases h0 : p.right = 0
  rotate_left
  · have g0 : (p.right != 0) = true := by simpa using h0
    go_wp2_with fail
    refine (hr _).mono ?_
    rintro e w1 ⟨rfl, b1⟩
    have b1' := hb.trans (b1.mono hb.size)
    clear hr hhd b1 hb hZ
    go_wp2_with fail
    go_ret2
    exact hno _ _ h0 rfl b1'
  have g0 : (p.right != 0) = false := by simp [h0]
  have hhd := fun W => hhd W h0
  obtain ⟨z1, z2, z3, z4, z5, z6⟩ := right_zero h0
  have h0h := Lib.hid h0
  have hk := hp.kinds
  clear hno h0
  go_wp2_with fail
  refine (hr _).mono ?_
  rintro e w1 ⟨rfl, b1⟩
  have hZ1 : Blk w1 w.heap.size 28 #[.bool p.m, .int .i64 p.ty, .int .u16 (p.seq : Int), .int .u32 (p.time : Int), .int .u32 (p.ssrc : Int), .slice A1 p.csrc.length c1, .int .u16 (p.prof : Int), .slice A2 p.ext.length c2, .slice A3 p.pay.length c3] := (b1.block _ hlt).trans hZ
  have b1' := hb.trans (b1.mono hb.size)
  clear hr b1 hb hZ hlt
  have hlt := hZ1.lt
  have k0 : w1.cell? ⟨w.heap.size, 0, none⟩ = some (.bool p.m) := hZ1.cell 0
  have k1 : w1.cell? ⟨w.heap.size, 1, none⟩ = some (.int .i64 p.ty) := hZ1.cell 1
  have k2 : w1.cell? ⟨w.heap.size, 2, none⟩ = some (.int .u16 (p.seq : Int)) := hZ1.cell 2
  have k3 : w1.cell? ⟨w.heap.size, 3, none⟩ = some (.int .u32 (p.time : Int)) := hZ1.cell 3
  have k4 : w1.cell? ⟨w.heap.size, 4, none⟩ = some (.int .u32 (p.ssrc : Int)) := hZ1.cell 4
  have k5 : w1.cell? ⟨w.heap.size, 5, none⟩ = some (.slice A1 p.csrc.length c1) := hZ1.cell 5
  have k6 : w1.cell? ⟨w.heap.size, 6, none⟩ = some (.int .u16 (p.prof : Int)) := hZ1.cell 6
  have k7 : w1.cell? ⟨w.heap.size, 7, none⟩ = some (.slice A2 p.ext.length c2) := hZ1.cell 7
  have k8 : w1.cell? ⟨w.heap.size, 8, none⟩ = some (.slice A3 p.pay.length c3) := hZ1.cell 8
  go_wp2_with fail
  clear k0 k1 k2 k3 k4 k5 k6 k7 k8 g0
  refine (hhd _).mono ?_
  rintro e w2 ⟨v2, rfl, ho2, b2⟩
  have hI2 : (bytesF w #[.bool p.m, .int .i64 p.ty, .int .u16 (p.seq : Int), .int .u32 (p.time : Int), .int .u32 (p.ssrc : Int), .slice A1 p.csrc.length c1, .int .u16 (p.prof : Int), .slice A2 p.ext.length c2, .slice A3 p.pay.length c3] v2 (hD p p.b0)).I w2 := ⟨b1'.trans (b2.mono (Nat.le_of_lt hlt)), by have := b2.size; omega, (b2.block _ hlt).trans hZ1, ho2.base hlt⟩
  have hdl := Lib.hid (hD_len p p.b0)
  obtain ⟨l2, hl2⟩ : ∃ l2, hD p p.b0 = l2 := ⟨_, rfl⟩
  rw [hl2] at hI2 hdl
  have hl2h := Lib.hid hl2
  clear hl2 hhd ho2 b2 hlt hZ1 b1'
  have k5 : w2.cell? ⟨w.heap.size, 5, none⟩ = some (.slice A1 p.csrc.length c1) := hI2.2.2.1.cell 5
  have ho2 := hI2.2.2.2
  go_wp2_with fail
  clear k5
  go_loopw [5, 7, 18] (fun v _ i wr => ∃ q : Nat, q ≤ p.csrc.length ∧ i = .int .i64 (q : Int) ∧ (bytesF w #[.bool p.m, .int .i64 p.ty, .int .u16 (p.seq : Int), .int .u32 (p.time : Int), .int .u32 (p.ssrc : Int), .slice A1 p.csrc.length c1, .int .u16 (p.prof : Int), .slice A2 p.ext.length c2, .slice A3 p.pay.length c3] v (l2 ++ (p.csrc.take q).flatMap (fun x => be x 4))).I wr) (fun _ _ i _ => p.csrc.length - (intOf i).toNat)
  case atStart => exact ⟨0, by omega, rfl, hI2.1, hI2.2.1, hI2.2.2.1, by simpa using ho2⟩
  case round =>
    obtain ⟨q, hq, rfl, hIR⟩ := hrel
    obtain ⟨bR, ltR, zR, oR⟩ := id hIR
    have hfl : ((p.csrc.take q).flatMap (fun x => be x 4)).length = 4 * q := flat4_len _ q (by rw [List.length_take]; omega)
    have hflh := Lib.hid hfl
    clear hfl hI2 ho2
    by_cases hlt : q < p.csrc.length
    · have g3 : decide ((q : Int) < (p.csrc.length : Int)) = true := by simp; omega
      have g5 : (q : Int) < (p.csrc.length : Int) := by omega
      have hrq := hp.csrc.on bR
      obtain ⟨x1, y1, rfl, yz1, u1⟩ := hrq.2.2.2 (by omega)
      have t1 := u1 q hlt
      have hxq := Lib.hid (show p.csrc.getD q 0 < 4294967296 by
        rw [List.getD_eq_getElem?_getD, List.getElem?_eq_getElem hlt]
        exact hrq.2.2.1 _ (List.getElem_mem hlt))
      have hgq := Lib.hid (take_flat p.csrc q hlt)
      clear u1 hrq
      generalize p.csrc.getD q 0 = a at t1 hxq hgq
      have e4 : (a : Int) % 18446744073709551616 = a := by have := hxq.out; omega
      go_wp2_with fail
      refine (put_row hIR oR (by rw [List.length_append, hdl.out, hflh.out]; omega) a 4 (by omega) (by omega) (by have := hxq.out; omega)).mono ?_
      rintro e W' ⟨u, rfl, h1, h2, h3⟩
      clear t1 e4 hIR oR
      have hI2 : (bytesF w #[.bool p.m, .int .i64 p.ty, .int .u16 (p.seq : Int), .int .u32 (p.time : Int), .int .u32 (p.ssrc : Int), .slice (some ⟨x1, y1, none⟩) p.csrc.length c1, .int .u16 (p.prof : Int), .slice A2 p.ext.length c2, .slice A3 p.pay.length c3] u (l2 ++ (p.csrc.take (q + 1)).flatMap (fun x => be x 4))).I W' := by
        refine ⟨h1.1, h1.2.1, h1.2.2.1, ?_⟩
        rw [← hgq.out, ← List.append_assoc]
        exact h3
      clear h1 h2 h3 bR ltR zR
      go_wp2_with fail
      go_roundw
      case rel => exact ⟨q + 1, by omega, by push_cast; rfl, hI2⟩
      case measure => simp [intOf]; omega
    · have g3 : decide ((q : Int) < (p.csrc.length : Int)) = false := by simp; omega
      have hqe : q = p.csrc.length := by omega
      have hT := Lib.hid (show p.csrc.take q = p.csrc by rw [List.take_of_length_le (by omega)])
      rw [hT.out] at oR
      have hflA := Lib.hid (flat4_len p.csrc _ rfl)
      obtain ⟨l3, hl3⟩ : ∃ l3, l2 ++ p.csrc.flatMap (fun x => be x 4) = l3 := ⟨_, rfl⟩
      rw [hl3] at oR
      have hl3h := Lib.hid hl3
      have hl3n := Lib.hid (show l3.length ≤ 72 by rw [← hl3, List.length_append, hdl.out, hflA.out]; omega)
      clear hl3 hIR hqe hT hflh
      have k6 : wr.cell? ⟨w.heap.size, 6, none⟩ = some (.int .u16 (p.prof : Int)) := zR.cell 6
      have hI : (bytesF w #[.bool p.m, .int .i64 p.ty, .int .u16 (p.seq : Int), .int .u32 (p.time : Int), .int .u32 (p.ssrc : Int), .slice A1 p.csrc.length c1, .int .u16 (p.prof : Int), .slice A2 p.ext.length c2, .slice A3 p.pay.length c3] u5 l3).I wr := ⟨bR, ltR, zR, oR⟩
      clear bR ltR zR oR
      go_upto_if 29 with (fail)
      go_cut [5] from 27 to 41 (fun s5 wc => ∃ v6 w6, v6 = s5 ∧ w6 = wc ∧ (bytesF w #[.bool p.m, .int .i64 p.ty, .int .u16 (p.seq : Int), .int .u32 (p.time : Int), .int .u32 (p.ssrc : Int), .slice A1 p.csrc.length c1, .int .u16 (p.prof : Int), .slice A2 p.ext.length c2, .slice A3 p.pay.length c3] v6 (l3 ++ (if p.prof = 0 then [] else be p.prof 2 ++ be (p.ext.length / 4) 2))).I w6)
      case first =>
        by_cases ga : p.prof = 0
        · have g : ((p.prof : Int) != 0) = false := by simp; omega
          clear hp hk
          go_wp2_with fail
          go_meet
          case rel => exact ⟨_, _, rfl, rfl, by rw [if_pos ga, List.append_nil]; exact hI⟩
        · have g : ((p.prof : Int) != 0) = true := by simp; omega
          have e4 : (p.prof : Int) % 18446744073709551616 = p.prof := by have := hk.prof; omega
          have ho := hI.2.2.2
          go_wp2_with fail
          refine (put_row hI ho (by have := hl3n.out; omega) p.prof 2 (by omega) (by omega) (by have := hk.prof; omega)).mono ?_
          rintro e W4 ⟨v4, rfl, hI4, _, ho4⟩
          clear k6 e4 g hI ho
          have k7 : W4.cell? ⟨w.heap.size, 7, none⟩ = some (.slice A2 p.ext.length c2) := hI4.2.2.1.cell 7
          have hee := Lib.hid (show p.ext.length ≤ 1500 by have := z6; unfold Pkt.size at this; rw [if_neg ga] at this; omega)
          go_wp2_with fail
          have e9 : IntKind.u64.wrap (wrap64 ((p.ext.length : Int) / 4)) = ((p.ext.length / 4 : Nat) : Int) := by
            have := hee.out
            rw [IntKind.wrap_u64]
            unfold wrap64
            omega
          rw [e9]
          refine (put_row hI4 ho4 (by have := hl3n.out; simp [be_len]; omega) (p.ext.length / 4) 2 (by omega) (by omega) (by have := hee.out; omega)).mono ?_
          rintro e W5 ⟨v5, rfl, hI5, _, ho5⟩
          clear k7 e9 hI4 ho4
          go_wp2_with fail
          go_meet
          case rel =>
            refine ⟨_, _, rfl, rfl, ?_⟩
            rw [if_neg ga, ← List.append_assoc]
            exact ⟨hI5.1, hI5.2.1, hI5.2.2.1, ho5⟩
      case rest =>
        obtain ⟨v6, w6, rfl, rfl, hI6⟩ := hcut
        clear hI k6
        obtain ⟨l6, hl6⟩ : ∃ l6, l3 ++ (if p.prof = 0 then [] else be p.prof 2 ++ be (p.ext.length / 4) 2) = l6 := ⟨_, rfl⟩
        rw [hl6] at hI6
        have hl6h := Lib.hid hl6
        have hl6n := Lib.hid (show l6.length ≤ 76 by
          rw [← hl6, List.length_append]
          have := hl3n.out
          by_cases ga : p.prof = 0
          · rw [if_pos ga]; simp; omega
          · rw [if_neg ga]; simp [be_len]; omega)
        clear hl6
        obtain ⟨b6, lt6, z6', o6⟩ := hI6
        obtain ⟨A6, c6, rfl, r6⟩ := o6.r8
        have k7 : w6.cell? ⟨w.heap.size, 7, none⟩ = some (.slice A2 p.ext.length c2) := z6'.cell 7
        have k8 : w6.cell? ⟨w.heap.size, 8, none⟩ = some (.slice A3 p.pay.length c3) := z6'.cell 8
        have hext := hp.ext.on b6
        have hpay := hp.pay.on b6
        have hsz := Lib.hid (show p.ext.length + p.pay.length ≤ 1500 by
          unfold Pkt.size at z6
          by_cases ga : p.prof = 0
          · have := z5 ga; rw [if_pos ga] at z6; omega
          · rw [if_neg ga] at z6; omega)
        clear z6' o6
        go_wp2_with fail
        have hN := Blk.new w6 26 #[.slice A6 l6.length c6, .slice A2 p.ext.length c2, .slice A3 p.pay.length c3]
        have bN : Below w6.heap.size w6 (w6.alloc (.cells #[.slice A6 l6.length c6, .slice A2 p.ext.length c2, .slice A3 p.pay.length c3] 26)) := (Below.refl _ w6).alloc (Nat.le_refl _) _
        have hNl := hN.lt
        refine (concat3 w6.heap.size A6 A2 A3 _ c6 _ c2 _ c3 l6 p.ext p.pay _ hNl (hN.cell 0) (hN.cell 1) (hN.cell 2) (r6.on bN) (hext.on bN) (hpay.on bN) (by have := hl6n.out; have := hsz.out; omega)).mono ?_
        rintro e w7 ⟨v7, rfl, o7, b7⟩
        have bb := (b6.trans (bN.mono (Nat.le_of_lt lt6))).trans (b7.mono (by have := bN.size; omega))
        have oo := o7.base (show w.heap.size ≤ _ by have := bN.size; omega)
        have eb : l6 ++ (p.ext ++ p.pay) = p.bytes := by
          rw [← hl6h.out, ← hl3h.out, ← hl2h.out]
          unfold Pkt.bytes hD Pkt.b0
          by_cases ga : p.prof = 0
          · have : p.ext = [] := List.eq_nil_of_length_eq_zero (z5 ga)
            simp [ga, this]
          · simp [ga]
        rw [eb] at oo
        clear k7 k8 hext hpay r6 o7 b7 bN hN
        go_wp2_with fail
        go_ret2
        exact RBOut.yes h0h.out oo bb
end Go.Proofs.Ytpcdmcaojgpfoaa
