/- Contract: rtp.head. -/
import Derived.Test.YtpcdmcaojgpfoaaCR3Bytes
import Derived.Test.YtpcdmcaojgpfoaaCOctPut
import Derived.Test.YtpcdmcaojgpfoaaRdP
namespace Go.Proofs.Ytpcdmcaojgpfoaa
open Go.RowKit
set_option linter.unusedVariables false
set_option linter.unusedSimpArgs false
set_option maxRecDepth 20000

theorem New8.own {w w' : World} {l : List UInt8} {e : Ending} (h : New8 w l e w') (hn : l.length ≤ 1000000) : ∃ v, e = .returned v ∧ Own8 w' w.heap.size v l ∧ Below w.heap.size w w' := by
  obtain ⟨g, m, he, hm, hB, hg, hb⟩ := h
  have hm' : l.length = m := hm
  subst hm'
  exact ⟨_, he, ⟨by simp, .inr ⟨g, l.length, (l.map bv).toArray, rfl, hg, hB, Nat.le_refl _, by unfold maxLen; omega, by simp, by simp [List.take_of_length_le]⟩⟩, hb⟩
theorem put_own (A : Option Addr) (n c : Nat) (l : List UInt8) (w : World) (h : R8 w w.heap.size A n c l) (hn : n ≤ 900000) (x k : Nat) (hk : 1 ≤ k) (hk8 : k ≤ 8) (hx : x < 18446744073709551616) :
    Calls Try.prog 57 #[.slice A n c, .int .u64 x, .int .i64 k] w fun e w' => ∃ v, e = .returned v ∧ Own8 w' w.heap.size v (l ++ be x k) ∧ Below w.heap.size w w' :=
  (put_yes A n c l w h (by omega) x k hk hk8 hx).mono fun e w' H => H.own (by have := h.1; simp [be_len]; omega)
/-- Put onto a row of one's own. -/
theorem put_row {w W : World} {cs : Array Value} {v : Value} {l : List UInt8} (hI : (bytesF w cs v l).I W) {x : Value} {l' : List UInt8} (ho : Own8 W (w.heap.size + 1) x l') (hn : l'.length ≤ 900000) (n k : Nat) (hk : 1 ≤ k) (hk8 : k ≤ 8) (hx : n < 18446744073709551616) :
    Calls Try.prog 57 #[x, .int .u64 n, .int .i64 k] W (fun e W' => ∃ u, e = .returned u ∧ (bytesF w cs v l).I W' ∧ Below W.heap.size W W' ∧ Own8 W' (w.heap.size + 1) u (l' ++ be n k)) := by
  obtain ⟨A, c, rfl, hr⟩ := ho.r8
  refine (put_own A _ c l' W hr hn n k hk hk8 hx).mono ?_
  rintro e W' ⟨u, rfl, h1, h2⟩
  exact ⟨u, rfl, bytesF_step hI h2, h2, h1.base hI.2.1⟩
def Pkt.b0 (p : Pkt) : Nat := 128 + p.csrc.length + if p.prof = 0 then 0 else 16
set_option maxHeartbeats 4000000 in
theorem rtp_head (p : Pkt) (A1 : Option Addr) (c1 : Nat) (A2 : Option Addr) (c2 : Nat) (A3 : Option Addr) (c3 : Nat) (w : World) (hk : p.In) (h0 : p.right = 0) :
    Calls Try.prog 56 #[p.val A1 c1 A2 c2 A3 c3] w fun e w' => ∃ v, e = .returned v ∧ Own8 w' w.heap.size v (hD p p.b0) ∧ Below w.heap.size w w' := by
  have hZ1 : Blk (w.alloc (.cells #[.bool p.m, .int .i64 p.ty, .int .u16 (p.seq : Int), .int .u32 (p.time : Int), .int .u32 (p.ssrc : Int), .slice A1 p.csrc.length c1, .int .u16 (p.prof : Int), .slice A2 p.ext.length c2, .slice A3 p.pay.length c3] 28)) w.heap.size 28 #[.bool p.m, .int .i64 p.ty, .int .u16 (p.seq : Int), .int .u32 (p.time : Int), .int .u32 (p.ssrc : Int), .slice A1 p.csrc.length c1, .int .u16 (p.prof : Int), .slice A2 p.ext.length c2, .slice A3 p.pay.length c3] := Blk.new _ _ _
  have b1' : Below w.heap.size w (w.alloc (.cells #[.bool p.m, .int .i64 p.ty, .int .u16 (p.seq : Int), .int .u32 (p.time : Int), .int .u32 (p.ssrc : Int), .slice A1 p.csrc.length c1, .int .u16 (p.prof : Int), .slice A2 p.ext.length c2, .slice A3 p.pay.length c3] 28)) := (Below.refl _ w).alloc (Nat.le_refl _) _
  simp only [Pkt.val]
  go_enter Try.func56, Try.ntmps56
  go_upto_region 1 with (fail)
  revert hZ1 b1'
  generalize (w.alloc (.cells #[.bool p.m, .int .i64 p.ty, .int .u16 (p.seq : Int), .int .u32 (p.time : Int), .int .u32 (p.ssrc : Int), .slice A1 p.csrc.length c1, .int .u16 (p.prof : Int), .slice A2 p.ext.length c2, .slice A3 p.pay.length c3] 28)) = w1
  intro hZ1 b1'
  have k1 : w1.cell? ⟨w.heap.size, 1, none⟩ = some (.int .i64 p.ty) := hZ1.cell 1
  have k5 : w1.cell? ⟨w.heap.size, 5, none⟩ = some (.slice A1 p.csrc.length c1) := hZ1.cell 5
  obtain ⟨z1, z2, z3, z4, z5, z6⟩ := right_zero h0
  obtain ⟨T, hT, hT'⟩ : ∃ T : Nat, p.ty = T ∧ T ≤ 127 := ⟨p.ty.toNat, by omega, by omega⟩
  rw [hT] at k1
  have hTh := Lib.hid hT
  clear hT
  go_quiet (fail)
  generalize hW : w1.drewN nq = W
  have hbW : Below w.heap.size w W := b1'.trans (hW ▸ below_drewNB _ _ _)
  have hZW : Blk W w.heap.size 28 #[.bool p.m, .int .i64 p.ty, .int .u16 (p.seq : Int), .int .u32 (p.time : Int), .int .u32 (p.ssrc : Int), .slice A1 p.csrc.length c1, .int .u16 (p.prof : Int), .slice A2 p.ext.length c2, .slice A3 p.pay.length c3] := hW ▸ hZ1.drewN nq
  clear hW b1' hZ1 k1 k5
  obtain ⟨M, hM⟩ : ∃ M, p.m = M := ⟨_, rfl⟩
  have k0 : W.cell? ⟨w.heap.size, 0, none⟩ = some (.bool M) := hM ▸ hZW.cell 0
  have hMh := Lib.hid hM
  clear hM
  have k6' := Lib.hid k0
  clear k0
  have k6 : W.cell? ⟨w.heap.size, 6, none⟩ = some (.int .u16 (p.prof : Int)) := hZW.cell 6
  have o1 := or128 p.csrc.length z3
  have o2 := or16 p.csrc.length z3
  have o3 := orT T hT'
  rw [o1]
  clear o1
  go_upto_if 14 with (fail)
  have o2' := Lib.hid o2
  clear o2
  go_cut [3] from 12 to 16 (fun s5 wc => ∃ F : Nat, F = 128 + p.csrc.length + (if p.prof = 0 then 0 else 16) ∧ s5 = .int .i64 (F : Int) ∧ W = wc)
  case first =>
    by_cases ga : p.prof = 0
    · have g : ((p.prof : Int) != 0) = false := by simp; omega
      go_wp2_with fail
      go_meet
      case rel => exact ⟨128 + p.csrc.length, by simp [ga], by simp, rfl⟩
    · have g : ((p.prof : Int) != 0) = true := by simp; omega
      go_wp2_with fail
      go_meet
      case rel => exact ⟨144 + p.csrc.length, by simp only [if_neg ga]; omega, congrArg (Value.int .i64) o2'.out, rfl⟩
  case rest =>
    obtain ⟨F, hF, rfl, rfl⟩ := hcut
    have hFh := Lib.hid hF
    clear hF o2'
    have k0 := k6'.out
    go_upto_if 18 with (fail)
    have o3' := Lib.hid o3
    clear o3
    go_cut [4] from 17 to 20 (fun s6 wc => ∃ G : Nat, G = T + (if M = true then 128 else 0) ∧ s6 = .int .i64 (G : Int) ∧ W = wc)
    case first =>
      cases M
      · clear k0 k6' hMh
        go_wp2_with fail
        go_meet
        case rel => exact ⟨T, by simp, by simp, rfl⟩
      · clear k0 k6' hMh
        go_wp2_with fail
        go_meet
        case rel => exact ⟨T + 128, by simp, congrArg (Value.int .i64) o3'.out, rfl⟩
    case rest =>
      obtain ⟨G, hG, rfl, rfl⟩ := hcut
      have hGh := Lib.hid hG
      clear hG o3'
      have k2 : W.cell? ⟨w.heap.size, 2, none⟩ = some (.int .u16 (p.seq : Int)) := hZW.cell 2
      have hlt := hZW.lt
      have hF9 : F < 256 := by have := hFh.out; split at this <;> omega
      have hG9 : G < 256 := by have := hGh.out; split at this <;> omega
      have f8 : (F : Int) % 256 = F := by omega
      have g8 : (G : Int) % 256 = G := by omega
      have hsq : (p.seq : Int) % 18446744073709551616 = p.seq := by have := hk.seq; omega
      clear k0 k6
      have hcs : ([UInt8.ofNat F, UInt8.ofNat G].map bv).toArray = #[.int .u8 (F : Int), .int .u8 (G : Int)] := by simp [bv, Nat.mod_eq_of_lt hF9, Nat.mod_eq_of_lt hG9]
      have hcsh := Lib.hid hcs
      clear hcs
      go_wp2_with fail
      refine (put_own _ 2 2 [UInt8.ofNat F, UInt8.ofNat G] _ (lit_r8_at _ _ 2 _ _ W rfl rfl hcsh.out) (by omega) p.seq 2 (by omega) (by omega) (by have := hk.seq; omega)).mono ?_
      rintro e w3 ⟨v3, rfl, ho3, b3⟩
      have ho3' := Own8.base ho3 (show w.heap.size + 1 ≤ _ by simp; omega)
      have b3' := (hbW.alloc (Nat.le_of_lt hlt) _).trans (b3.mono (by simp; omega))
      have hZ3 : Blk w3 w.heap.size 28 #[.bool p.m, .int .i64 p.ty, .int .u16 (p.seq : Int), .int .u32 (p.time : Int), .int .u32 (p.ssrc : Int), .slice A1 p.csrc.length c1, .int .u16 (p.prof : Int), .slice A2 p.ext.length c2, .slice A3 p.pay.length c3] := (b3.block _ (by simp; omega)).trans (hZW.alloc _)
      clear ho3 b3 hZW hbW k2 f8 g8 hsq
      obtain ⟨l3, hl3⟩ : ∃ l3, [UInt8.ofNat F, UInt8.ofNat G] ++ be p.seq 2 = l3 := ⟨_, rfl⟩
      rw [hl3] at ho3'
      have hlen : l3.length = 4 := by rw [← hl3]; simp [be_len]
      have hl3h := Lib.hid hl3
      have hlenh := Lib.hid hlen
      clear hl3 hlen
      have hI3 : (bytesF w #[.bool p.m, .int .i64 p.ty, .int .u16 (p.seq : Int), .int .u32 (p.time : Int), .int .u32 (p.ssrc : Int), .slice A1 p.csrc.length c1, .int .u16 (p.prof : Int), .slice A2 p.ext.length c2, .slice A3 p.pay.length c3] v3 l3).I w3 := ⟨b3', hZ3.lt, hZ3, ho3'⟩
      have k3 : w3.cell? ⟨w.heap.size, 3, none⟩ = some (.int .u32 (p.time : Int)) := hZ3.cell 3
      have htm : (p.time : Int) % 18446744073709551616 = p.time := by have := hk.time; omega
      clear b3' hZ3
      go_wp2_with fail
      refine (put_row hI3 ho3' (by have := hlenh.out; omega) p.time 4 (by omega) (by omega) (by have := hk.time; omega)).mono ?_
      rintro e w4 ⟨v4, rfl, hI4, _, ho4⟩
      have k4 : w4.cell? ⟨w.heap.size, 4, none⟩ = some (.int .u32 (p.ssrc : Int)) := hI4.2.2.1.cell 4
      have hss : (p.ssrc : Int) % 18446744073709551616 = p.ssrc := by have := hk.ssrc; omega
      clear k3 htm ho3'
      go_wp2_with fail
      refine (put_row hI4 ho4 (by have := hlenh.out; simp [be_len]; omega) p.ssrc 4 (by omega) (by omega) (by have := hk.ssrc; omega)).mono ?_
      rintro e w5 ⟨v5, rfl, hI5, _, ho5⟩
      have ho := ho5.base (Nat.le_succ w.heap.size)
      have hb5 := hI5.1
      have eb : l3 ++ be p.time 4 ++ be p.ssrc 4 = hD p p.b0 := by
        rw [← hl3h.out, hFh.out, hGh.out, ← hMh.out]
        unfold hD Pkt.b0
        have e1 : p.ty.toNat = T := by have := hTh.out; omega
        rw [e1]
        simp
      have ebh := Lib.hid eb
      clear k4 hss ho4 eb ho5 hI5 hI4 hI3
      go_wp2_with fail
      go_ret
      exact ⟨_, rfl, ebh.out ▸ ho, hb5⟩
end Go.Proofs.Ytpcdmcaojgpfoaa
