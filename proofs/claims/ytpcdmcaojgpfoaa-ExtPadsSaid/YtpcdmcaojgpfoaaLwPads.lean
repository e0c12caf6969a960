/- The walk of limelightlaw4.ExtPads. -/
import Derived.Test.YtpcdmcaojgpfoaaExM
namespace Go.Proofs.Ytpcdmcaojgpfoaa.RP
open Go.RowKit
set_option linter.unusedVariables false
set_option linter.unusedSimpArgs false
set_option maxRecDepth 20000

theorem re_grown {w w' : World} {A : Option Addr} {n c : Nat} {E : List El} {row : Option Nat} (h : RE w w.heap.size A n c E) (hg : w.grownBy w' row) (hA : ∀ ad, A = some ad → row ≠ some ad.block) (hE : ∀ x ∈ E, ∀ ad, x.A = some ad → row ≠ some ad.block) : RE w' w'.heap.size A n c E :=
  ⟨h.1, h.2.1, fun e he => ⟨(h.2.2.1 e he).1, (h.2.2.1 e he).2.grown hg (hE e he)⟩, fun hn => by
    obtain ⟨b, off, e, hlt, hc⟩ := h.2.2.2 hn
    refine ⟨b, off, e, by have := hg.size; omega, fun j v hj => ?_⟩
    rw [← hc j v hj]
    exact World.cell?_of_block (hg.block b hlt fun e' => hA _ e e'.symm)⟩
set_option maxRecDepth 100000 in
set_option maxHeartbeats 8000000 in
theorem extPads_walk (A0 : Option Addr) (n0 c0 : Nat) (at' num : Int) (w : World) (hR : RI w w.heap.size A0 n0 c0) (hn0 : n0 ≤ 281474976710656) (ha : I64 at') (hnum : I64 num) :
    Calls Try.prog 7 #[.slice A0 n0 c0, .int .i64 at', .int .i64 num] w (Yes w) := by
  have hT := tape_at hR hn0
  have b0 : Below w.heap.size w (w.alloc (.cells #[.slice A0 n0 c0, .int .i64 0] 31)) := (Below.refl _ w).alloc (Nat.le_refl _) _
  obtain ⟨z, hz0, hz1, _, hzw⟩ := within_ex num 0 7 hnum (by omega) (by omega) (by omega)
  go_enter Try.func7, Try.ntmps7
  go_wp2_with fail
  refine (tape_elems w.heap.size false _ hT).mono ?_
  rintro e w1 ⟨A, c, E, rfl, hE3, hEin, hRE, hm⟩
  have b1 : Below w.heap.size w w1 := b0.trans hm.below
  obtain ⟨k, hk0, hk1, _, hkw⟩ := within_ex at' 0 E.length ha (by omega) (by omega) (by omega)
  clear hT b0 hm hR
  go_wp2_with (go_at_call 11; refine (hkw _).mono ?_; rintro e w' ⟨rfl, hw⟩; obtain rfl := hw.symm)
  have hEn := Lib.hid hRE.1
  go_loopw [8, 9, 11, 12, 13, 14, 29] (fun va vb _ _ _ _ i wr => ∃ (q : Nat) (La Lb : List UInt8), q ≤ E.length ∧ i = .int .i64 (q : Int) ∧ Two w1 wr va vb La Lb ∧ RdsAs La ((E.take q).map El.dat) ∧ RdsAs Lb ((E.take q).map El.dat) ∧ La.length ≤ 100 * q ∧ Lb.length ≤ 100 * q) (fun _ _ _ _ _ _ i _ => E.length - (intOf i).toNat)
  case atStart => exact ⟨0, [], [], by omega, rfl, Two.start (Below.refl _ _), by simpa using RdsAs.nil, by simpa using RdsAs.nil, by simp, by simp⟩
  case round =>
    obtain ⟨q, La, Lb, hq, rfl, h2, hra, hrb, hla, hlb⟩ := hrel
    by_cases hlt : q < E.length
    · have g3 : decide ((q : Int) < (E.length : Int)) = true := by simp; omega
      have g4 : (q : Int) < (E.length : Int) := by omega
      obtain ⟨b, off, rfl, hbl, hcell⟩ := hRE.2.2.2 (by omega)
      obtain ⟨k1, k2⟩ := cellsE_get E q hlt
      have hEm : E[q] ∈ E := List.getElem_mem hlt
      have hEl := hRE.2.2.1 _ hEm
      have hXin := hEin _ hEm
      have x0 : wr.cell? ⟨b, off + q * 2, none⟩ = some (.int .i64 E[q].id) := by
        rw [Nat.mul_comm]
        exact (h2.below.cell (p := ⟨b, off + 2 * q, none⟩) hbl).trans (hcell _ _ k1)
      have x1 : wr.cell? ⟨b, off + q * 2 + 1, none⟩ = some (.slice E[q].A E[q].d.length E[q].c) := by
        rw [Nat.mul_comm]
        exact (h2.below.cell (p := ⟨b, off + (2 * q + 1), none⟩) hbl).trans (hcell _ _ k2)
      have hXr := (hEl.2.below h2.below).more h2.below.size
      have hXi := hEl.1
      have htake := Lib.hid (show (E.take (q + 1)).map El.dat = (E.take q).map El.dat ++ [E[q].dat] by rw [List.take_add_one, List.getElem?_eq_getElem hlt, List.map_append]; rfl)
      clear hcell k1 k2 hEm hEl
      revert hXin x0 x1 hXr hXi htake
      generalize E[q] = X
      obtain ⟨xid, XA, Xc, Xd⟩ := X
      intro hXin x0 x1 hXr hXi htake
      have hbad := bad_in hXin
      obtain ⟨e0, _⟩ := elemsB_one hbad
      obtain ⟨l1, l2⟩ := elB_len10 hXin
      have hra' := hra.el hbad
      have hrb' := hrb.el hbad
      have hrbz := (hrb.zeros z.toNat).el hbad
      simp only at x0 x1 hXr hXi l1 l2
      have hblk : Blk (wr.alloc (.cells #[.int .i64 xid, .slice XA Xd.length Xc] 51)) wr.heap.size 51 #[.int .i64 xid, .slice XA Xd.length Xc] := Blk.new _ _ _
      have hal : Below wr.heap.size wr (wr.alloc (.cells #[.int .i64 xid, .slice XA Xd.length Xc] 51)) := (Below.refl _ wr).alloc (Nat.le_refl _) _
      have hXr := hXr.on hal
      have hva : ∀ b, Value.ownBlock u8 = some b → b < wr.heap.size := fun b hb => (World.ownsRow.lt h2.oa b hb).2
      have hvb : ∀ b, Value.ownBlock u9 = some b → b < wr.heap.size := fun b hb => (World.ownsRow.lt h2.ob b hb).2
      have h2 := h2.on hal
      clear hra hrb
      go_upto_region 7 with (fail)
      clear x0 x1 hal
      revert hblk hXr hva hvb h2
      generalize wr.alloc (.cells #[.int .i64 xid, .slice XA Xd.length Xc] 51) = W
      generalize wr.heap.size = L
      intro hblk hXr hva hvb h2
      have k0 := hblk.cell 0
      have k1 := hblk.cell 1
      simp at k0 k1
      have hL := hblk.lt
      have hE1 := re_one W xid XA Xc Xd hXi hXr
      have hal : Below W.heap.size W (W.alloc (.cells #[.int .i64 xid, .slice XA Xd.length Xc] 51)) := (Below.refl _ W).alloc (Nat.le_refl _) _
      have hsal : (W.alloc (.cells #[.int .i64 xid, .slice XA Xd.length Xc] 51)).heap.size = W.heap.size + 1 := by simp
      go_wp2_with fail
      clear k0 k1
      have hq := ext_bytes_new 48862 _ 1 1 [⟨xid, XA, Xc, Xd⟩] _ hE1 (by omega) (by intro e he; rw [List.mem_singleton.1 he]; simp only; omega)
      unfold ElemsNew at hq
      rw [e0, hsal] at hq
      refine hq.mono ?_
      rintro e w2 ⟨Ax, cx, rfl, hRx, hb2, hnew⟩
      rw [← hsal] at hb2
      have hb2 := hal.trans (hb2.mono hal.size)
      have h2 := h2.on hb2
      have hblk2 : Blk w2 L 51 #[.int .i64 xid, .slice XA Xd.length Xc] := (hb2.block L hL).trans hblk
      have j1 := hblk2.cell 1
      simp at j1
      have hfa : ∀ ad, Ax = some ad → Value.ownBlock u8 ≠ some ad.block := fun ad e e' => by have := hva _ e'; have := hnew ad e; omega
      have hfb : ∀ ad, Ax = some ad → Value.ownBlock u9 ≠ some ad.block := fun ad e e' => by have := hvb _ e'; have := hnew ad e; omega
      clear hq hE1 hal hsal hb2 hblk hblk2 hva hvb hnew hXr hXi hXin e0 hbad
      obtain ⟨B, hB⟩ : ∃ B, elemsB 48862 [⟨xid, XA, Xc, Xd⟩] = B := ⟨_, rfl⟩
      rw [hB] at l1 l2 hra' hrb' hrbz hRx ⊢
      clear hB
      have g5 : ¬ ((B.length : Int) < (Xd.length : Int) + 1) := by omega
      by_cases hk : (q : Int) = k
      · have g6 : ((q : Int) == k) = true := by simp [hk]
        clear hk
        obtain ⟨Z, rfl⟩ : ∃ Z : Nat, z = Z := ⟨z.toNat, by omega⟩
        rw [Int.toNat_natCast] at hrbz
        have hlz := Lib.hid (show Lb.length + Z ≤ 1000000 by omega)
        go_upto_region 12 with (first
          | (go_at_call 11; refine (hzw _).mono ?_; rintro e w' ⟨rfl, hw⟩; obtain rfl := hw.symm)
          | (at_builtin; ((with_reducible refine wpList_append_zerosN rfl (.tmp 54) (.tmp 56) rfl w1.heap.size u9 Lb (by with_unfolding_all rfl) h2.ob Z (by with_unfolding_all rfl) hlz.out h2.below.size ?_)); intro v2 wz haz))
        have h2z := h2.appB haz
        have hRx := R8.grown hRx haz.2.1 hfb
        clear haz h2
        have hla1 := Lib.hid (show La.length + B.length ≤ 140737488355328 by omega)
        have hlb1 := Lib.hid (show (Lb ++ List.replicate Z 0).length + B.length ≤ 140737488355328 by simp; omega)
        go_wp2_with (first
          | (at_builtin; ((with_reducible refine wpList_append8 rfl (.tmp 58) (.tmp 59) rfl rfl w1.heap.size u8 La (by with_unfolding_all rfl) h2z.oa wz.heap.size Ax B.length cx B (by with_unfolding_all rfl) hRx hla1.out h2z.below.size ?_)); intro v3 w3 ha3; have h3 := h2z.appA ha3; have hRx3 := R8.grown hRx ha3.2.1 hfa; have hs3 := h3.below.size)
          | (at_builtin; ((with_reducible refine wpList_append8 rfl (.tmp 61) (.tmp 62) rfl rfl w1.heap.size v2 (Lb ++ List.replicate Z 0) (by with_unfolding_all rfl) h3.ob w3.heap.size Ax B.length cx B (by with_unfolding_all rfl) hRx3 hlb1.out hs3 ?_)); intro v4 w4 ha4))
        have h4 := h3.appB ha4
        clear ha3 ha4 hRx hRx3 hla1 hlb1
        go_roundw
        case rel => exact ⟨q + 1, La ++ B, _, by omega, by go_num, h4, by rw [htake.out]; exact hra', by rw [htake.out]; exact hrbz, by simp; omega, by simp; omega⟩
        case measure => simp [intOf]; omega
      · have g6 : ((q : Int) == k) = false := by simp [hk]
        have hrbz := hrb'
        clear hk
        have hla1 := Lib.hid (show La.length + B.length ≤ 140737488355328 by omega)
        have hlb1 := Lib.hid (show (Lb).length + B.length ≤ 140737488355328 by omega)
        go_wp2_with (first
          | (at_builtin; ((with_reducible refine wpList_append8 rfl (.tmp 58) (.tmp 59) rfl rfl w1.heap.size u8 La (by with_unfolding_all rfl) h2.oa w2.heap.size Ax B.length cx B (by with_unfolding_all rfl) hRx hla1.out h2.below.size ?_)); intro v3 w3 ha3; have h3 := h2.appA ha3; have hRx3 := R8.grown hRx ha3.2.1 hfa; have hs3 := h3.below.size)
          | (at_builtin; ((with_reducible refine wpList_append8 rfl (.tmp 61) (.tmp 62) rfl rfl w1.heap.size u9 (Lb) (by with_unfolding_all rfl) h3.ob w3.heap.size Ax B.length cx B (by with_unfolding_all rfl) hRx3 hlb1.out hs3 ?_)); intro v4 w4 ha4))
        have h4 := h3.appB ha4
        clear ha3 ha4 hRx hRx3 hla1 hlb1
        go_roundw
        case rel => exact ⟨q + 1, La ++ B, _, by omega, by go_num, h4, by rw [htake.out]; exact hra', by rw [htake.out]; exact hrb', by simp; omega, by simp; omega⟩
        case measure => simp [intOf]; omega
    · have g3 : decide ((q : Int) < (E.length : Int)) = false := by simp; omega
      obtain rfl : q = E.length := by omega
      rw [List.take_length] at hra hrb
      have hEm3 : (E.map El.dat).length ≤ 8 := by simp; omega
      obtain ⟨p1, p2⟩ := hra.out hEm3
      have hz00 : RdsAs (Lb ++ [0, 0]) (E.map El.dat) := hrb.zeros 2
      have hm12 := Lib.hid (hz00.out hEm3)
      clear hz00
      obtain ⟨Aa, ca, hva, hRa⟩ := h2.oa.r8
      subst hva
      have q1 := fun W hW => ext_read_new 48862 Aa La.length ca La W (hRa.on hW) (by omega)
      unfold ReadNew at q1
      rw [p1, p2] at q1
      have hvb : ∀ b, Value.ownBlock u9 = some b → b < wr.heap.size := fun b hb => (World.ownsRow.lt h2.ob b hb).2
      clear p1 p2 hra hrb hRa hEin hzw hkw
      go_wp2_with fail
      refine (q1 _ (Below.refl _ _)).mono ?_
      rintro e w3 ⟨A3, c3, F, rfl, hF, hRF, b3, hf1, hf2⟩
      have h2 := h2.on b3
      have hs3 := h2.below.size
      clear q1 b3
      have hal : Below w3.heap.size w3 (w3.alloc (.cells #[.int .u8 0, .int .u8 0] 5)) := (Below.refl _ w3).alloc (Nat.le_refl _) _
      have h2 := h2.on hal
      have hRF := hRF.on hal
      have hz2 : R8 (w3.alloc (.cells #[.int .u8 0, .int .u8 0] 5)) (w3.heap.size + 1) (some ⟨w3.heap.size, 0, none⟩) 2 2 [0, 0] := two_r8 w3 0 0 0 0 rfl rfl
      have hlb2 := Lib.hid (show Lb.length + 2 ≤ 140737488355328 by omega)
      have hsz := h2.below.size
      have hFm := congrArg List.length hF
      rw [List.length_map, List.length_map] at hFm
      have hFE := Lib.hid hF
      have hFmh := Lib.hid hFm
      clear hal hF hFm
      go_wp2_with (at_builtin; ((with_reducible refine wpList_append8 rfl (.tmp 71) (.tmp 72) rfl rfl w1.heap.size u9 Lb (by with_unfolding_all rfl) h2.ob (w3.heap.size + 1) (some ⟨w3.heap.size, 0, none⟩) 2 2 [0, 0] (by with_unfolding_all rfl) hz2 hlb2.out hsz ?_)); intro v4 w4 ha4; have hRF4 := re_grown hRF ha4.2.1 (fun ad e e' => absurd (hf1 ad e) (Nat.not_le.2 (hvb _ e'))) (fun x hx ad e e' => absurd (hf2 x hx ad e) (Nat.not_le.2 (hvb _ e'))); have h4 := h2.appB ha4; obtain ⟨Ab, cb, hvb4, hRb⟩ := h4.ob.r8; subst hvb4; clear ha4 h2)
      have hLb2 : (Lb ++ [0, 0]).length = Lb.length + 2 := by simp
      have q2 := fun W hW => ext_read 48862 Ab _ cb _ W (hRb.on hW) (by rw [hLb2]; omega)
      unfold ReadOut at q2
      rw [hm12.out.1, hm12.out.2, hLb2] at q2
      have b4 := h4.below
      clear h4 hRb hRF hz2 hLb2 hm12
      refine (q2 _ (Below.refl _ _)).mono ?_
      rintro e w5 ⟨A5, c5, G, rfl, hG, hRG, b5⟩
      have hRF5 := hRF4.on b5
      have b5 := b4.trans (b5.mono b4.size)
      have hRE5 := hRE.on b5
      have e1 := fun W hW => elems_yes A3 A F.length c3 E.length c F E W (hRF5.on hW) (hRE5.on hW) hFE.out (by have := hFmh.out; omega)
      have hGm := congrArg List.length hG
      rw [List.length_map, List.length_map] at hGm
      have e2 := fun W hW => elems_yes A5 A G.length c5 E.length c G E W (hRG.on hW) (hRE5.on hW) hG (by omega)
      have b5 := b1.trans (b5.mono b1.size)
      clear q2 b4 hRF4 hRG hG hGm hRE hRE5 hRF5 b1
      go_wp2_with fail
      refine (e1 _ (Below.refl _ _)).mono ?_
      rintro e w6 ⟨rfl, b6⟩
      clear e1
      go_wp2_with fail
      refine (e2 _ b6).mono ?_
      rintro e w7 ⟨rfl, b7⟩
      have b7 := b5.trans ((b6.trans (b7.mono b6.size)).mono b5.size)
      have hkn := known4 w7
      clear e2 b5 b6
      go_wp2_with fail
      refine hkn.mono ?_
      rintro e w8 ⟨rfl, b8⟩
      go_wp2_with fail
      go_ret
      exact ⟨by simp, b7.trans (b8.mono b7.size)⟩
end Go.Proofs.Ytpcdmcaojgpfoaa.RP
