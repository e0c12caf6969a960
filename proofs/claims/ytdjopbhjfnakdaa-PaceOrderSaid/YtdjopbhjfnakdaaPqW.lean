/- PaceOrder's walk. -/
import Derived.Test.YtdjopbhjfnakdaaPqO
namespace Go.Proofs.Ytdjopbhjfnakdaa
open Go.RowKit
set_option linter.unusedVariables false
set_option linter.unusedSimpArgs false
set_option maxRecDepth 20000

def OrS (w0 : World) (G gb r q : Nat) (v6 v7 : Value) (W : World) : Prop := ∃ l Q cut S W8 G8, Ord w0 G gb r l Q cut S v6 W8 v7 G8 W ∧ OrQ r l Q ∧ cut ≤ q ∧ W8 = G8 ++ headsQ Q ∧ W8.length ≤ q
def OrT (w0 : World) (G gb r q : Nat) (v6 v7 : Value) (W : World) : Prop := ∃ l Q cut S W8 G8, Ord w0 G gb r l Q cut S v6 W8 v7 G8 W ∧ OrQ r l Q ∧ cut ≤ 40 ∧ W8 = G8 ++ headsQ Q ∧ W8.length ≤ 40 ∧ Q.length + q ≤ 16
def InS (w0 : World) (G gb r l : Nat) (Q : Row8) (cut : Nat) (S : Nat → Prop) (v6 : Value) (W8 G8 : List UInt8) (P : Row8) (F : Nat → Prop) (Ao : Option Addr) (no co j : Nat) (v7 : Value) (W : World) : Prop :=
  Ord w0 G gb r l Q cut S v6 W8 v7 (G8 ++ (headsQ P).take j) W ∧ RB W Ao no co P F ∧ ∀ k, F k → v7.ownBlock ≠ some k
theorem InS.grow {w0 : World} {G gb r l : Nat} {Q : Row8} {cut : Nat} {S : Nat → Prop} {v6 : Value} {W8 G8 : List UInt8} {P : Row8} {F : Nat → Prop} {Ao : Option Addr} {no co j : Nat} {v7 v : Value} {W W' : World} (h : InS w0 G gb r l Q cut S v6 W8 G8 P F Ao no co j v7 W) (hj : j < P.length) (ha : App8 W w0.heap.size v7 ((G8 ++ (headsQ P).take j) ++ [(P.getD j []).headD 0]) v W') : InS w0 G gb r l Q cut S v6 W8 G8 P F Ao no co (j + 1) v W' := by
  obtain ⟨h1, h2, h3⟩ := h
  have e : (G8 ++ (headsQ P).take j) ++ [(P.getD j []).headD 0] = G8 ++ (headsQ P).take (j + 1) := by
    rw [List.append_assoc]
    congr 1
    have hl : j < (headsQ P).length := by rw [headsQ_len]; exact hj
    rw [List.take_succ_eq_append_getElem hl]
    congr 2
    simp [headsQ, List.getD, hj]
  rw [e] at ha
  obtain ⟨ho, hg, hv⟩ := ha
  refine ⟨h1.app7 ⟨ho, hg, hv⟩, h2.keep (T := fun k => v7.ownBlock = some k) ⟨hg.os, hg.tape, hg.output, hg.size, fun k hk hn => hg.block k hk (fun e => hn e.symm)⟩ (fun k hk e => h3 k hk e), fun k hk e => ?_⟩
  rcases hv with hv | hv
  · exact h3 k hk (hv ▸ e)
  · have := h2.2.2.1 k hk
    rw [hv] at e
    injection e with e
    omega
theorem InS.on {w0 : World} {G gb r l : Nat} {Q : Row8} {cut : Nat} {S : Nat → Prop} {v6 : Value} {W8 G8 : List UInt8} {P : Row8} {F : Nat → Prop} {Ao : Option Addr} {no co j : Nat} {v7 : Value} {W W' : World} (h : InS w0 G gb r l Q cut S v6 W8 G8 P F Ao no co j v7 W) (hb : Below W.heap.size W W') : InS w0 G gb r l Q cut S v6 W8 G8 P F Ao no co j v7 W' := ⟨h.1.on hb, h.2.1.on hb, h.2.2⟩
theorem heads_put {Q : Row8} {x W8 G8 : List UInt8} {y : UInt8} (h : W8 = G8 ++ headsQ Q) (hx : x.headD 0 = y) : W8 ++ [y] = G8 ++ headsQ (Q ++ [x]) := by
  have e : headsQ [x] = [y] := by simp only [headsQ, List.map_cons, List.map_nil, hx]
  rw [h, headsQ_app, e, List.append_assoc]
theorem heads_go {l : Nat} {Q : Row8} {W8 G8 : List UInt8} (h : W8 = G8 ++ headsQ Q) : W8 = (G8 ++ headsQ (goO l Q)) ++ headsQ (goR l Q) := by
  rw [List.append_assoc, ← headsQ_app, go_all]
  exact h
set_option maxHeartbeats 8000000 in
theorem paceOrder_walk (A : Option Addr) (n c : Nat) (rate : Int) (w : World) (hr : RI w w.heap.size A n c) (hn : n ≤ 281474976710656) (hrt : I64 rate) :
    Calls Try.prog 5 #[.slice A n c, .int .i64 rate] w (Yes w) := by
  have IC := Lib.hid (fun (k : Int) (h1 : -2000000 ≤ k) (h2 : k ≤ 2000000) => (by unfold I64; omega : I64 k))
  have HRI := Lib.hid hr
  clear hr hrt
  obtain ⟨r0, hr0, lr⟩ := bits_and_le rate 65535 (by omega)
  have HR0 : Hid (bits .and .i64 rate 65535 = (r0 : Int)) := Lib.hid hr0
  clear hr0
  obtain ⟨r, hr, r1, r2⟩ : ∃ r : Nat, wrap64 (1000 + (r0 : Int)) = (r : Int) ∧ 1000 ≤ r ∧ r ≤ 70000 := ⟨1000 + r0, by rw [wrap_i64 (by unfold I64; omega)]; omega, by omega, by omega⟩
  have HR := Lib.hid hr
  have HRR := Lib.hid (⟨r1, r2⟩ : _ ∧ _)
  have HH : Hid (heldN (r : Int) = r) := Lib.hid (by unfold heldN po; rw [Int.toNat_natCast]; omega)
  clear hr lr r1 r2
  go_enter Try.func5, Try.ntmps5
  go_wp2_with fail
  rw [HR0.out, HR.out]
  refine (pq_new (r : Int) 2000 (IC.out _ (by have := HRR.out; omega) (by have := HRR.out; omega)) (IC.out _ (by omega) (by omega)) _).mono ?_
  rintro e w1 ⟨G, gb, S, rfl, p0, hS, b0⟩
  rw [HH.out, show heldN 2000 = 2000 by decide] at p0
  have HO : Hid (OrS w G gb r 0 (.slice none 0 0) (.slice none 0 0) w1) := Lib.hid ⟨2000 * 1000000, [], 0, S, [], [], ⟨p0, own_nil _ _ _ _, own_nil _ _ _ _, hS, fun _ _ e => (by cases e), fun _ _ e => (by cases e), fun _ e => (by cases e), b0⟩, ⟨⟨by have := HRR.out; omega, by omega, Nat.le_refl _⟩, ⟨by simp, by simp⟩, by simp⟩, Nat.le_refl _, rfl, by simp⟩
  clear p0 hS b0 HR0 HR HH
  go_wp2_with fail
  go_loopw [6, 7, 8, 9, 11, 56, 57, 58] (fun v6 v7 i _ _ _ _ _ wr => ∃ (q : Nat) (a6 a7 : Value), v6 = a6 ∧ v7 = a7 ∧ q ≤ n ∧ q ≤ 40 ∧ i = .int .i64 (q : Int) ∧ Hid (OrS w G gb r q a6 a7 wr)) (fun _ _ i _ _ _ _ _ _ => 40 - (intOf i).toNat)
  case atStart => exact ⟨0, _, _, rfl, rfl, by omega, by omega, rfl, HO⟩
  case round =>
    obtain ⟨q, a6, a7, rfl, rfl, hqn, hq, rfl, HO⟩ := hrel
    obtain ⟨l, Q, cut, S, W8, G8, ho, hoq, hcut, hheads, hwl⟩ := HO.out
    obtain ⟨A6, c6, e6, _⟩ := ho.want.r8
    obtain ⟨A7, c7, e7, _⟩ := ho.got.r8
    obtain ⟨n6, hn6⟩ : ∃ n6, n6 = W8.length := ⟨_, rfl⟩
    obtain ⟨n7, hn7⟩ : ∃ n7, n7 = G8.length := ⟨_, rfl⟩
    rw [← hn6] at e6
    rw [← hn7] at e7
    have HN := Lib.hid (⟨hn6, hn7⟩ : _ ∧ _)
    clear hn6 hn7
    subst e6 e7
    by_cases hlt : q < n ∧ q < 40
    · obtain ⟨hl1, hl2⟩ := hlt
      have g1 : decide ((q : Int) < (n : Int)) = true := by simp; omega
      have g2 : decide ((q : Int) < 40) = true := by simp; omega
      have g3 : (q : Int) < (n : Int) := by omega
      obtain ⟨bA, off, rfl, hbA, hc⟩ := HRI.out.2 (by omega)
      obtain ⟨x, hx, c0⟩ := hc q hl1
      have c1 : wr.cell? ⟨bA, off + q, none⟩ = some (.int .i64 x) := (ho.below.cell (p := ⟨bA, off + q, none⟩) hbA).trans c0
      obtain ⟨rr, hr0, hr300, _, hwi⟩ := within_ex x 0 300 hx (by omega) (by omega) (by omega)
      obtain ⟨k, rfl⟩ : ∃ k : Nat, rr = (k : Int) := ⟨rr.toNat, by omega⟩
      have HWI := Lib.hid hwi
      obtain ⟨m, hm, m1, m2⟩ : ∃ m : Nat, wrap64 (1 + (k : Int)) = (m : Int) ∧ 1 ≤ m ∧ m ≤ 301 := ⟨k + 1, by rw [wrap_i64 (by unfold I64; omega)]; omega, by omega, by omega⟩
      have hmk : ∀ W, (Instr.makeSlice 29 (.int .i64 (m : Int)) (.int .i64 (m : Int))).run Try.prog W = .ok (.slice (some ⟨W.heap.size, 0, none⟩) m m) (W.alloc (.cells ((nz m).map bv).toArray 5)) := fun W => run_make8 m (by omega) W
      have HK := Lib.hid (⟨ho, hoq, hcut, hheads, hwl, hl1, hl2, m1, m2⟩ : _ ∧ _ ∧ _ ∧ _ ∧ _ ∧ _ ∧ _ ∧ _ ∧ _)
      clear hc hx c0 hbA hwi ho hoq hcut hheads hwl hr0 hr300 HO hl1 hl2
      go_wp2_with fail
      refine (HWI.out _).mono ?_
      rintro e w' ⟨rfl, hw'⟩
      rw [hw']
      clear hw' w' HWI
      go_upto_region 9 with (fail)
      obtain ⟨ho, hoq, hcut, hheads, hwl, hl1, hl2, m1, m2⟩ := HK.out
      have hoV := ho.on (belowA wr (.cells ((nz m).map bv).toArray 5))
      have hB0 : Blk (wr.alloc (.cells ((nz m).map bv).toArray 5)) wr.heap.size 5 ((nz m).map bv).toArray := Blk.new _ _ _
      have hnS : ∀ k, S k → k ≠ wr.heap.size := fun k hk e => by have := ho.pq.lt hk; omega
      have hn6' : (Value.slice A6 n6 c6).ownBlock ≠ some wr.heap.size := fun e => by have := (ho.lt6 e).2; omega
      have hn7' : (Value.slice A7 n7 c7).ownBlock ≠ some wr.heap.size := fun e => by have := (ho.lt7 e).2; omega
      have hwb := ho.below.size
      clear ho c1 hm hmk HK
      generalize wr.alloc (.cells ((nz m).map bv).toArray 5) = V at hoV hB0 ⊢
      generalize wr.heap.size = gB at hB0 hnS hn6' hn7' hwb ⊢
      have z1 : V.cell? ⟨gB, 0, none⟩ = some (.int .u8 0) := by
        rw [hB0.cell 0]
        obtain ⟨m', rfl⟩ : ∃ m', m = m' + 1 := ⟨m - 1, by omega⟩
        rfl
      have z2 := hB0.frozen 0
      have hB1 : Blk (V.setCell ⟨gB, 0, none⟩ (.int .u8 (q : Int))) gB 5 (((nz m).set 0 (UInt8.ofNat q)).map bv).toArray := by
        have := hB0.set_ 0 (.int .u8 (q : Int))
        have e : (((nz m).map bv).toArray.setIfInBounds 0 (.int .u8 (q : Int))) = (((nz m).set 0 (UInt8.ofNat q)).map bv).toArray := by
          rw [List.setIfInBounds_toArray, List.map_set]
          congr 2
          unfold bv
          rw [UInt8.toNat_ofNat', Nat.mod_eq_of_lt (by omega)]
        rw [e] at this
        exact this
      have hoX := hoV.other (OnlyS.one (S := fun g => g = gB) (Only.set gB 0 V (.int .u8 (q : Int))) rfl) (fun k hk => by rw [hk]; exact hwb) (fun k hk e => hnS k hk e) (fun k hk e => by rw [hk] at e; exact hn6' e) (fun k hk e => by rw [hk] at e; exact hn7' e)
      have hxl : ((nz m).set 0 (UInt8.ofNat q)).length = m := by rw [List.length_set, nz_len]
      have hxh : ((nz m).set 0 (UInt8.ofNat q)).headD 0 = UInt8.ofNat q := by
        obtain ⟨m', rfl⟩ : ∃ m', m = m' + 1 := ⟨m - 1, by omega⟩
        rfl
      have y1 : (q : Int) % 256 = (q : Int) := by omega
      have gm : (0 : Int) < (m : Int) := by omega
      have HK := Lib.hid (⟨hoX, hB1, hoq, hcut, hheads, hwl, hl1, hl2, m1, m2⟩ : _ ∧ _ ∧ _ ∧ _ ∧ _ ∧ _ ∧ _ ∧ _ ∧ _ ∧ _)
      clear hoV hB0 hnS hn6' hn7' hwb hB1 hoX hoq hcut hheads hwl
      go_upto_region 10 with (fail)
      generalize V.setCell ⟨gB, 0, none⟩ (.int .u8 (q : Int)) = X at HK ⊢
      clear z1 z2
      obtain ⟨hoX, hB1, hoq, hcut, hheads, hwl, hl1, hl2, m1, m2⟩ := HK.out
      generalize (nz m).set 0 (UInt8.ofNat q) = xx at hB1 hxl hxh
      have hp := pq_put hoX.pq hoq.ok hoq.qu (by omega) (hB1.r8 hxl (Nat.le_refl m)) (by omega)
      have hoq2 := hoq.put (x := xx) (by omega)
      clear HK hB1
      have HK := Lib.hid (⟨hoX, hoq2, hcut, hheads, hwl, hl1, hl2⟩ : _ ∧ _ ∧ _ ∧ _ ∧ _ ∧ _ ∧ _)
      clear hoX hoq hoq2 hcut hheads hwl hl1 hl2 m1 m2
      go_wp2_with fail
      ((with_reducible refine hp.mono ?_); rintro e W2 ⟨rfl, S2, p2, hS2, ho2⟩)
      obtain ⟨hoX, hoq2, hcut, hheads, hwl, hl1, hl2⟩ := HK.out
      have ho' := hoX.turn p2 hS2 ho2
      clear hp p2 hS2 ho2 hoX HK
      cases hPB : putB 2000 Q xx with
      | true =>
        rw [putQ_yes hPB, putC_yes hPB] at ho'
        rw [putQ_yes hPB] at hoq2
        have hheads2 := heads_put hheads hxh
        have oA := ho'.on (belowA W2 (.cells #[.int .u8 (q : Int)] 5))
        have oW := oA.want
        have hhq : (UInt8.ofNat q).toNat = q := by rw [UInt8.toNat_ofNat']; omega
        have rA := one_r8 W2 (UInt8.ofNat q) (q : Int) (by rw [hhq])
        have hwA := oA.below.size
        have hbd : W8.length + 1 ≤ 140737488355328 := by omega
        have hwl2 : (W8 ++ [UInt8.ofNat q]).length ≤ q + 1 := by rw [List.length_append, List.length_singleton]; omega
        have HK := Lib.hid (⟨oA, hoq2, (by omega : cut ≤ q + 1), hheads2, hwl2, hl1, hl2⟩ : _ ∧ _ ∧ _ ∧ _ ∧ _ ∧ _ ∧ _)
        have HBD := Lib.hid (⟨hbd, hwA⟩ : _ ∧ _)
        clear ho' oA hoq2 hcut hheads hheads2 hwl hwl2 hl1 hl2 hhq hbd hwA hxl hxh hPB
        go_upto_region 12 with (at_builtin; go_loud (with_reducible refine wpList_append8 rfl (.tmp 45) (.tmp 48) rfl rfl w.heap.size (.slice A6 n6 c6) W8 (by with_unfolding_all rfl) oW _ _ 1 1 [UInt8.ofNat q] (by with_unfolding_all rfl) rA HBD.out.1 HBD.out.2 ?_); intro v6 W3 h6)
        obtain ⟨oA, hoq2, hcut, hheads, hwl, hl1, hl2⟩ := HK.out
        have ho' := oA.app6 h6
        clear oA h6 oW rA HK HBD
        generalize W8 ++ [UInt8.ofNat q] = W9 at ho' hheads hwl
        generalize Q ++ [xx] = Q2 at ho' hoq2 hheads
        have HLL := Lib.hid (⟨hl1, hl2⟩ : _ ∧ _)
        clear hl1 hl2
        by_cases h3 : (q : Int) % 3 = 2
        · have z3 : ((q : Int) % 3 == 2) = true := by rw [beq_iff_eq]; exact h3
          have HK := Lib.hid (⟨ho', hoq2, hcut, hheads, hwl⟩ : _ ∧ _ ∧ _ ∧ _ ∧ _)
          obtain ⟨l4, hTT, hoq4⟩ := ord_some 50000 hoq2
          have ht := pq_tick_at ho'.pq hoq2.ok (IC.out 50000 (by omega) (by omega)) hTT.out
          clear ho' hoq2 hcut hheads hwl
          go_wp2_with fail
          ((with_reducible refine ht.mono ?_); rintro e W4 ⟨rfl, S3, p3, hS3, ho3⟩)
          have ho4 := HK.out.1.turn p3 hS3 ho3
          obtain ⟨_, _, hcut, hheads, hwl⟩ := HK.out
          have hg := pq_go ho4.pq hoq4.ok hoq4.qu (fun b hb => Nat.le_trans (hoq4.small b hb).2 (by omega))
          clear ht p3 hS3 ho3 HK
          go_wp2_with fail
          ((with_reducible refine hg.mono ?_); rintro e W5 ⟨Ao, no, co, S4, F, rfl, rb, hF, p5, hS5, ho5, hFS⟩)
          have ho5' := ho4.turn p5 hS5 ho5
          have hin : InS w G gb r (goL l4 Q2) (goR l4 Q2) cut S4 (v6) W9 G8 (goO l4 Q2) F Ao no co 0 (.slice A7 n7 c7) W5 := by
            refine ⟨by rw [List.take_zero, List.append_nil]; exact ho5', rb, fun k hk e => ?_⟩
            rcases hF k hk with h1 | h1
            · exact ho4.s7 k h1 e
            · have := (ho4.lt7 e).2
              omega
          have hPs : ∀ b ∈ goO l4 Q2, 0 < b.length ∧ b.length ≤ 301 := fun b hb => hoq4.small b (goO_mem hb)
          have hgl : G8.length + (goO l4 Q2).length ≤ 100 := by
            have h1 := congrArg List.length hheads
            rw [List.length_append, headsQ_len] at h1
            have h2 := goO_len l4 Q2
            have := HLL.out
            omega
          have HF := Lib.hid (⟨hoq4.go, hcut, heads_go (l := l4) hheads, hwl⟩ : _ ∧ _ ∧ _ ∧ _)
          have HIN := Lib.hid hin
          have HP := Lib.hid (⟨hPs, hgl⟩ : _ ∧ _)
          clear hg ho4 hoq4 hcut hheads hwl rb hF p5 hS5 ho5 hFS ho5' hin hPs hgl
          generalize goL l4 Q2 = l3 at *
          generalize goR l4 Q2 = Q3 at *
          generalize goO l4 Q2 = P at *
          go_wp2_with fail
          have hno100 : no ≤ 100 := by have h1 := HIN.out.2.1.1; have h2 := HP.out.2; omega
          go_loopw [7, 11, 58] (fun v _ i wx => ∃ (j : Nat) (b7 : Value), b7 = v ∧ j ≤ no ∧ i = .int .i64 (j : Int) ∧ Hid (InS w G gb r l3 Q3 cut S4 v6 W9 G8 P F Ao no co j b7 wx)) (fun _ _ i _ => no - (intOf i).toNat)
          case atStart => exact ⟨0, _, rfl, by omega, rfl, HIN⟩
          case round =>
            obtain ⟨j, b7, rfl, hjn, rfl, HIN⟩ := hrel
            by_cases hjl : j < no
            · have t1 : decide ((j : Int) < (no : Int)) = true := by simp; omega
              have t3 : (j : Int) < (no : Int) := by omega
              have hin := HIN.out
              obtain ⟨bo, of3, hAo, _, hcc⟩ := hin.2.1.2.2.2 (by omega)
              subst hAo
              obtain ⟨Ai, ni, ci, d0, r8, _⟩ := hcc j hjl
              have hjp : j < P.length := by rw [hin.2.1.1]; exact hjl
              have hPm : P.getD j [] ∈ P := by
                rw [List.getD_eq_getElem?_getD, List.getElem?_eq_getElem hjp]
                exact List.getElem_mem hjp
              have hPl := (HP.out.1 _ hPm).1
              have hnil := r8.1
              have hni0 : 0 < ni := by omega
              obtain ⟨b2, of4, hAi, _, hc8⟩ := r8.2.2 hni0
              subst hAi
              have d1 : wr.cell? ⟨b2, of4, none⟩ = some (.int .u8 (((P.getD j []).headD 0).toNat : Int)) := by
                have := hc8 0 hni0
                rw [Nat.add_zero] at this
                rw [this]
                congr 3
                cases P.getD j [] with
                | nil => rfl
                | cons a b => rfl
              obtain ⟨yv, hyv⟩ : ∃ yv, yv = (P.getD j []).headD 0 := ⟨_, rfl⟩
              rw [← hyv] at d1
              have f1 : ((ni : Int) == 0) = false := by rw [beq_eq_false_iff_ne]; omega
              have f2 : (0 : Int) < (ni : Int) := by omega
              obtain ⟨A7b, c7b, e7b, _⟩ := hin.1.got.r8
              obtain ⟨n7b, hn7b⟩ : ∃ n7b, n7b = (G8 ++ (headsQ P).take j).length := ⟨_, rfl⟩
              rw [← hn7b] at e7b
              subst e7b
              have hinA := hin.on (belowA wr (.cells #[.int .u8 (yv.toNat : Int)] 5))
              have oG := hinA.1.got
              have rA := one_r8 wr yv (yv.toNat : Int) rfl
              have HBD := Lib.hid (⟨by rw [List.length_append, List.length_take, headsQ_len]; have := HP.out.2; omega, hinA.1.below.size, hinA, hyv, hjp⟩ : (G8 ++ (headsQ P).take j).length + 1 ≤ 140737488355328 ∧ _ ∧ _ ∧ _ ∧ _)
              obtain ⟨GL, hGL⟩ : ∃ GL, GL = G8 ++ (headsQ P).take j := ⟨_, rfl⟩
              rw [← hGL] at oG
              have HGL := Lib.hid hGL
              have HB1 : Hid (GL.length + 1 ≤ 140737488355328) := Lib.hid (by rw [hGL]; exact HBD.out.1)
              have HB2 := Lib.hid HBD.out.2.1
              clear hin hcc r8 hPm hPl hnil hc8 hyv hn7b hinA hGL hjp HIN
              go_wp2_with (at_builtin; go_loud (with_reducible refine wpList_append8 rfl (.tmp 65) (.tmp 69) rfl rfl w.heap.size (.slice A7b n7b c7b) GL (by with_unfolding_all rfl) oG _ _ 1 1 [yv] (by with_unfolding_all rfl) rA HB1.out HB2.out ?_); intro v9 w9 h9)
              have HN9 := Lib.hid (HBD.out.2.2.1.grow HBD.out.2.2.2.2 (by rw [← HBD.out.2.2.2.1, ← HGL.out]; exact h9))
              clear h9 oG rA d0 d1
              go_roundw
              case rel => exact ⟨j + 1, _, rfl, by omega, by go_num, HN9⟩
              case measure => simp [intOf]; omega
            · have t1 : decide ((j : Int) < (no : Int)) = false := by simp; omega
              have hjno : j = no := by omega
              subst hjno
              have hin := HIN.out
              have htk : (headsQ P).take j = headsQ P := List.take_of_length_le (by rw [headsQ_len, hin.2.1.1]; exact Nat.le_refl _)
              have ho9 := hin.1
              rw [htk] at ho9
              clear hin htk HIN
              have HO2 : Hid (OrS w G gb r (q + 1) (v6) b7 wr) := Lib.hid ⟨_, _, _, _, _, _, ho9, HF.out.1, HF.out.2.1, HF.out.2.2.1, HF.out.2.2.2⟩
              clear ho9
              go_wp2_with fail
              obtain ⟨hl1, hl2⟩ := HLL.out
              go_roundw
              case rel => exact ⟨q + 1, _, _, rfl, rfl, by omega, by omega, by go_num, HO2⟩
              case measure => simp [intOf]; omega
        · have z3 : ((q : Int) % 3 == 2) = false := by rw [beq_eq_false_iff_ne]; exact h3
          have HO2 : Hid (OrS w G gb r (q + 1) (v6) (.slice A7 n7 c7) W3) := Lib.hid ⟨_, _, _, _, _, _, ho', hoq2, hcut, hheads, hwl⟩
          clear ho' hoq2 hcut hheads hwl
          go_wp2_with fail
          obtain ⟨hl1, hl2⟩ := HLL.out
          go_roundw
          case rel => exact ⟨q + 1, _, _, rfl, rfl, by omega, by omega, by go_num, HO2⟩
          case measure => simp [intOf]; omega
      | false =>
        rw [putQ_no hPB, putC_no hPB] at ho'
        rw [putQ_no hPB] at hoq2
        have hcut2 : cut + 1 ≤ q + 1 := by omega
        have hwl2 : W8.length ≤ q + 1 := by omega
        clear hcut hwl hxl hxh hPB
        go_upto_region 12 with (fail)
        have hcut := hcut2
        have hwl := hwl2
        clear hcut2 hwl2
        generalize cut + 1 = cut2 at ho' hcut
        have HLL := Lib.hid (⟨hl1, hl2⟩ : _ ∧ _)
        clear hl1 hl2
        by_cases h3 : (q : Int) % 3 = 2
        · have z3 : ((q : Int) % 3 == 2) = true := by rw [beq_iff_eq]; exact h3
          have HK := Lib.hid (⟨ho', hoq2, hcut, hheads, hwl⟩ : _ ∧ _ ∧ _ ∧ _ ∧ _)
          obtain ⟨l4, hTT, hoq4⟩ := ord_some 50000 hoq2
          have ht := pq_tick_at ho'.pq hoq2.ok (IC.out 50000 (by omega) (by omega)) hTT.out
          clear ho' hoq2 hcut hheads hwl
          go_wp2_with fail
          ((with_reducible refine ht.mono ?_); rintro e W4 ⟨rfl, S3, p3, hS3, ho3⟩)
          have ho4 := HK.out.1.turn p3 hS3 ho3
          obtain ⟨_, _, hcut, hheads, hwl⟩ := HK.out
          have hg := pq_go ho4.pq hoq4.ok hoq4.qu (fun b hb => Nat.le_trans (hoq4.small b hb).2 (by omega))
          clear ht p3 hS3 ho3 HK
          go_wp2_with fail
          ((with_reducible refine hg.mono ?_); rintro e W5 ⟨Ao, no, co, S4, F, rfl, rb, hF, p5, hS5, ho5, hFS⟩)
          have ho5' := ho4.turn p5 hS5 ho5
          have hin : InS w G gb r (goL l4 Q) (goR l4 Q) cut2 S4 ((.slice A6 n6 c6)) W8 G8 (goO l4 Q) F Ao no co 0 (.slice A7 n7 c7) W5 := by
            refine ⟨by rw [List.take_zero, List.append_nil]; exact ho5', rb, fun k hk e => ?_⟩
            rcases hF k hk with h1 | h1
            · exact ho4.s7 k h1 e
            · have := (ho4.lt7 e).2
              omega
          have hPs : ∀ b ∈ goO l4 Q, 0 < b.length ∧ b.length ≤ 301 := fun b hb => hoq4.small b (goO_mem hb)
          have hgl : G8.length + (goO l4 Q).length ≤ 100 := by
            have h1 := congrArg List.length hheads
            rw [List.length_append, headsQ_len] at h1
            have h2 := goO_len l4 Q
            have := HLL.out
            omega
          have HF := Lib.hid (⟨hoq4.go, hcut, heads_go (l := l4) hheads, hwl⟩ : _ ∧ _ ∧ _ ∧ _)
          have HIN := Lib.hid hin
          have HP := Lib.hid (⟨hPs, hgl⟩ : _ ∧ _)
          clear hg ho4 hoq4 hcut hheads hwl rb hF p5 hS5 ho5 hFS ho5' hin hPs hgl
          generalize goL l4 Q = l3 at *
          generalize goR l4 Q = Q3 at *
          generalize goO l4 Q = P at *
          go_wp2_with fail
          have hno100 : no ≤ 100 := by have h1 := HIN.out.2.1.1; have h2 := HP.out.2; omega
          go_loopw [7, 11, 58] (fun v _ i wx => ∃ (j : Nat) (b7 : Value), b7 = v ∧ j ≤ no ∧ i = .int .i64 (j : Int) ∧ Hid (InS w G gb r l3 Q3 cut2 S4 (.slice A6 n6 c6) W8 G8 P F Ao no co j b7 wx)) (fun _ _ i _ => no - (intOf i).toNat)
          case atStart => exact ⟨0, _, rfl, by omega, rfl, HIN⟩
          case round =>
            obtain ⟨j, b7, rfl, hjn, rfl, HIN⟩ := hrel
            by_cases hjl : j < no
            · have t1 : decide ((j : Int) < (no : Int)) = true := by simp; omega
              have t3 : (j : Int) < (no : Int) := by omega
              have hin := HIN.out
              obtain ⟨bo, of3, hAo, _, hcc⟩ := hin.2.1.2.2.2 (by omega)
              subst hAo
              obtain ⟨Ai, ni, ci, d0, r8, _⟩ := hcc j hjl
              have hjp : j < P.length := by rw [hin.2.1.1]; exact hjl
              have hPm : P.getD j [] ∈ P := by
                rw [List.getD_eq_getElem?_getD, List.getElem?_eq_getElem hjp]
                exact List.getElem_mem hjp
              have hPl := (HP.out.1 _ hPm).1
              have hnil := r8.1
              have hni0 : 0 < ni := by omega
              obtain ⟨b2, of4, hAi, _, hc8⟩ := r8.2.2 hni0
              subst hAi
              have d1 : wr.cell? ⟨b2, of4, none⟩ = some (.int .u8 (((P.getD j []).headD 0).toNat : Int)) := by
                have := hc8 0 hni0
                rw [Nat.add_zero] at this
                rw [this]
                congr 3
                cases P.getD j [] with
                | nil => rfl
                | cons a b => rfl
              obtain ⟨yv, hyv⟩ : ∃ yv, yv = (P.getD j []).headD 0 := ⟨_, rfl⟩
              rw [← hyv] at d1
              have f1 : ((ni : Int) == 0) = false := by rw [beq_eq_false_iff_ne]; omega
              have f2 : (0 : Int) < (ni : Int) := by omega
              obtain ⟨A7b, c7b, e7b, _⟩ := hin.1.got.r8
              obtain ⟨n7b, hn7b⟩ : ∃ n7b, n7b = (G8 ++ (headsQ P).take j).length := ⟨_, rfl⟩
              rw [← hn7b] at e7b
              subst e7b
              have hinA := hin.on (belowA wr (.cells #[.int .u8 (yv.toNat : Int)] 5))
              have oG := hinA.1.got
              have rA := one_r8 wr yv (yv.toNat : Int) rfl
              have HBD := Lib.hid (⟨by rw [List.length_append, List.length_take, headsQ_len]; have := HP.out.2; omega, hinA.1.below.size, hinA, hyv, hjp⟩ : (G8 ++ (headsQ P).take j).length + 1 ≤ 140737488355328 ∧ _ ∧ _ ∧ _ ∧ _)
              obtain ⟨GL, hGL⟩ : ∃ GL, GL = G8 ++ (headsQ P).take j := ⟨_, rfl⟩
              rw [← hGL] at oG
              have HGL := Lib.hid hGL
              have HB1 : Hid (GL.length + 1 ≤ 140737488355328) := Lib.hid (by rw [hGL]; exact HBD.out.1)
              have HB2 := Lib.hid HBD.out.2.1
              clear hin hcc r8 hPm hPl hnil hc8 hyv hn7b hinA hGL hjp HIN
              go_wp2_with (at_builtin; go_loud (with_reducible refine wpList_append8 rfl (.tmp 65) (.tmp 69) rfl rfl w.heap.size (.slice A7b n7b c7b) GL (by with_unfolding_all rfl) oG _ _ 1 1 [yv] (by with_unfolding_all rfl) rA HB1.out HB2.out ?_); intro v9 w9 h9)
              have HN9 := Lib.hid (HBD.out.2.2.1.grow HBD.out.2.2.2.2 (by rw [← HBD.out.2.2.2.1, ← HGL.out]; exact h9))
              clear h9 oG rA d0 d1
              go_roundw
              case rel => exact ⟨j + 1, _, rfl, by omega, by go_num, HN9⟩
              case measure => simp [intOf]; omega
            · have t1 : decide ((j : Int) < (no : Int)) = false := by simp; omega
              have hjno : j = no := by omega
              subst hjno
              have hin := HIN.out
              have htk : (headsQ P).take j = headsQ P := List.take_of_length_le (by rw [headsQ_len, hin.2.1.1]; exact Nat.le_refl _)
              have ho9 := hin.1
              rw [htk] at ho9
              clear hin htk HIN
              have HO2 : Hid (OrS w G gb r (q + 1) ((.slice A6 n6 c6)) b7 wr) := Lib.hid ⟨_, _, _, _, _, _, ho9, HF.out.1, HF.out.2.1, HF.out.2.2.1, HF.out.2.2.2⟩
              clear ho9
              go_wp2_with fail
              obtain ⟨hl1, hl2⟩ := HLL.out
              go_roundw
              case rel => exact ⟨q + 1, _, _, rfl, rfl, by omega, by omega, by go_num, HO2⟩
              case measure => simp [intOf]; omega
        · have z3 : ((q : Int) % 3 == 2) = false := by rw [beq_eq_false_iff_ne]; exact h3
          have HO2 : Hid (OrS w G gb r (q + 1) ((.slice A6 n6 c6)) (.slice A7 n7 c7) W2) := Lib.hid ⟨_, _, _, _, _, _, ho', hoq2, hcut, hheads, hwl⟩
          clear ho' hoq2 hcut hheads hwl
          go_wp2_with fail
          obtain ⟨hl1, hl2⟩ := HLL.out
          go_roundw
          case rel => exact ⟨q + 1, _, _, rfl, rfl, by omega, by omega, by go_num, HO2⟩
          case measure => simp [intOf]; omega
    · have HS : Hid (¬ (q < n ∧ q < 40)) := Lib.hid hlt
      clear hlt
      have HT : Hid (OrT w G gb r 0 (.slice A6 n6 c6) (.slice A7 n7 c7) wr) := Lib.hid ⟨l, Q, cut, S, W8, G8, ho, hoq, by omega, hheads, by omega, hoq.qu.len⟩
      clear ho hoq hcut hheads hwl HO
      by_cases hl1 : q < n
      · have hl2 : ¬ q < 40 := fun h => HS.out ⟨hl1, h⟩
        have g1 : decide ((q : Int) < (n : Int)) = true := by simp; omega
        have g2 : decide ((q : Int) < 40) = false := by simp; omega
        clear HS
        go_wp2_with fail
        go_loopw [7, 12, 14, 84, 85, 86] (fun v7 i _ _ _ _ wr => ∃ (p : Nat) (a7 : Value), a7 = v7 ∧ p ≤ 16 ∧ i = .int .i64 (p : Int) ∧ Hid (OrT w G gb r p (.slice A6 n6 c6) a7 wr)) (fun _ i _ _ _ _ _ => 100 - (intOf i).toNat)
        case atStart => exact ⟨0, _, rfl, by omega, rfl, HT⟩
        case round =>
          obtain ⟨p, a7, rfl, hp16, rfl, HT⟩ := hrel
          obtain ⟨l, Q, cut, S, W8, G8, ho, hoq, hcut, hheads, hwl, hQp⟩ := HT.out
          have t1 : decide ((p : Int) < 100) = true := by simp; omega
          obtain ⟨nq, hnq⟩ : ∃ nq, nq = Q.length := ⟨_, rfl⟩
          have hlen := pq_len ho.pq
          rw [← hnq] at hlen
          have HNQ := Lib.hid hnq
          have HK := Lib.hid (⟨ho, hoq, hcut, hheads, hwl, hQp⟩ : _ ∧ _ ∧ _ ∧ _ ∧ _ ∧ _)
          clear hnq ho hoq hcut hheads hwl hQp HT
          go_wp2_with fail
          ((with_reducible refine hlen.mono ?_); rintro e V1 hd)
          have d1 := hd.below
          obtain ⟨rfl, _⟩ := hd
          obtain ⟨ho, hoq, hcut, hheads, hwl, hQp⟩ := HK.out
          have ho := ho.on d1
          clear hlen d1 HK
          by_cases hQ0 : Q = []
          · subst hQ0
            have hnq0 : nq = 0 := HNQ.out
            subst hnq0
            obtain ⟨A7b, c7b, e7b, r7⟩ := ho.got.r8
            obtain ⟨n7b, hn7b⟩ : ∃ n7b, n7b = G8.length := ⟨_, rfl⟩
            rw [← hn7b] at e7b r7
            subst e7b
            obtain ⟨A6b, c6b, e6b, r6⟩ := ho.want.r8
            injection e6b with e6b e6c e6d
            subst e6b e6d
            rw [← e6c] at r6
            have hWG : W8 = G8 := by rw [hheads]; simp [headsQ]
            subst hWG
            have cv7 : (convert 29 9 (.slice A7b n7b c7b)).run Try.prog V1 = .ok (.string (strB W8)) V1 := r7.string (P := Try.prog) 29 5 9 Try.underlying29 Try.underlying5 Try.underlying9
            have cv6 : (convert 29 9 (.slice A6 n6 c6)).run Try.prog V1 = .ok (.string (strB W8)) V1 := r6.string (P := Try.prog) 29 5 9 Try.underlying29 Try.underlying5 Try.underlying9
            have HK := Lib.hid ho
            clear ho hoq hcut hheads hwl hQp r7 r6 hn7b e6c
            go_wp2_with fail
            ((with_reducible refine (pq_len HK.out.pq).mono ?_); rintro e V2 hd)
            have d2 := hd.below
            obtain ⟨rfl, _⟩ := hd
            have b2 := HK.out.below.trans (d2.mono HK.out.below.size)
            clear d2 cv7 cv6
            go_wp2_with fail
            ((with_reducible refine (known11_any _).mono ?_); rintro e V3 ⟨rfl, d3⟩)
            have b3 := b2.trans (d3.mono b2.size)
            clear d3 b2
            go_wp2_with fail
            go_ret
            exact ⟨rfl, b3⟩
          · have hQpos : 0 < Q.length := List.length_pos_iff.2 hQ0
            have hnq1 : 0 < nq := by rw [HNQ.out]; exact hQpos
            have t2 : decide ((0 : Int) < (nq : Int)) = true := by simp; omega
            have t3 : decide (0 < nq) = true := by simp; omega
            have t4 : (0 : Int) < (nq : Int) := by omega
            have hp15 : p ≤ 15 := by omega
            obtain ⟨l4, hTT, hoq4, hless⟩ := ord_sec HRR.out.1 HRR.out.2 hoq hQpos
            have ht := pq_tick_at ho.pq hoq.ok (IC.out 1000000 (by omega) (by omega)) hTT.out
            have HK := Lib.hid (⟨ho, hoq4, hcut, hheads, hwl, hQp, hless⟩ : _ ∧ _ ∧ _ ∧ _ ∧ _ ∧ _ ∧ _)
            clear ho hoq hoq4 hcut hheads hwl hQp hless hTT hnq1 hQpos hQ0
            go_wp2_with fail
            ((with_reducible refine ht.mono ?_); rintro e W4 ⟨rfl, S3, p3, hS3, ho3⟩)
            obtain ⟨ho, hoq4, hcut, hheads, hwl, hQp, hless⟩ := HK.out
            have ho4 := ho.turn p3 hS3 ho3
            have hg := pq_go ho4.pq hoq4.ok hoq4.qu (fun b hb => Nat.le_trans (hoq4.small b hb).2 (by omega))
            clear ht p3 hS3 ho3 HK ho
            have HX := Lib.hid (⟨hheads, hwl, hQp, hless⟩ : _ ∧ _ ∧ _ ∧ _)
            clear hheads hwl hQp hless
            go_wp2_with fail
            ((with_reducible refine hg.mono ?_); rintro e W5 ⟨Ao, no, co, S4, F, rfl, rb, hF, p5, hS5, ho5, hFS⟩)
            obtain ⟨hheads, hwl, hQp, hless⟩ := HX.out
            have ho5' := ho4.turn p5 hS5 ho5
            have hin : InS w G gb r (goL l4 Q) (goR l4 Q) cut S4 (.slice A6 n6 c6) W8 G8 (goO l4 Q) F Ao no co 0 a7 W5 := by
              refine ⟨by rw [List.take_zero, List.append_nil]; exact ho5', rb, fun k hk e => ?_⟩
              rcases hF k hk with h1 | h1
              · exact ho4.s7 k h1 e
              · have := (ho4.lt7 e).2
                omega
            have hPs : ∀ b ∈ goO l4 Q, 0 < b.length ∧ b.length ≤ 301 := fun b hb => hoq4.small b (goO_mem hb)
            have hgl : G8.length + (goO l4 Q).length ≤ 100 := by
              have h1 := congrArg List.length hheads
              rw [List.length_append, headsQ_len] at h1
              have h2 := goO_len l4 Q
              omega
            have hq4 : (goR l4 Q).length + (p + 1) ≤ 16 := by omega
            have HF := Lib.hid (⟨hoq4.go, hcut, heads_go (l := l4) hheads, hwl, hq4⟩ : _ ∧ _ ∧ _ ∧ _ ∧ _)
            have HIN := Lib.hid hin
            have HP := Lib.hid (⟨hPs, hgl⟩ : _ ∧ _)
            clear hg ho4 hoq4 hcut hheads hwl rb hF p5 hS5 ho5 hFS ho5' hin hPs hgl hq4 hQp hless HX
            generalize goL l4 Q = l3 at *
            generalize goR l4 Q = Q3 at *
            generalize goO l4 Q = P at *
            go_wp2_with fail
            have hno100 : no ≤ 100 := by have h1 := HIN.out.2.1.1; have h2 := HP.out.2; omega
            go_loopw [7, 14, 86] (fun v _ i wx => ∃ (j : Nat) (b7 : Value), b7 = v ∧ j ≤ no ∧ i = .int .i64 (j : Int) ∧ Hid (InS w G gb r l3 Q3 cut S4 (.slice A6 n6 c6) W8 G8 P F Ao no co j b7 wx)) (fun _ _ i _ => no - (intOf i).toNat)
            case atStart => exact ⟨0, _, rfl, by omega, rfl, HIN⟩
            case round =>
              obtain ⟨j, b7, rfl, hjn, rfl, HIN⟩ := hrel
              by_cases hjl : j < no
              · have t1 : decide ((j : Int) < (no : Int)) = true := by simp; omega
                have t3 : (j : Int) < (no : Int) := by omega
                have hin := HIN.out
                obtain ⟨bo, of3, hAo, _, hcc⟩ := hin.2.1.2.2.2 (by omega)
                subst hAo
                obtain ⟨Ai, ni, ci, d0, r8, _⟩ := hcc j hjl
                have hjp : j < P.length := by rw [hin.2.1.1]; exact hjl
                have hPm : P.getD j [] ∈ P := by
                  rw [List.getD_eq_getElem?_getD, List.getElem?_eq_getElem hjp]
                  exact List.getElem_mem hjp
                have hPl := (HP.out.1 _ hPm).1
                have hnil := r8.1
                have hni0 : 0 < ni := by omega
                obtain ⟨b2, of4, hAi, _, hc8⟩ := r8.2.2 hni0
                subst hAi
                have d1 : wr.cell? ⟨b2, of4, none⟩ = some (.int .u8 (((P.getD j []).headD 0).toNat : Int)) := by
                  have := hc8 0 hni0
                  rw [Nat.add_zero] at this
                  rw [this]
                  congr 3
                  cases P.getD j [] with
                  | nil => rfl
                  | cons a b => rfl
                obtain ⟨yv, hyv⟩ : ∃ yv, yv = (P.getD j []).headD 0 := ⟨_, rfl⟩
                rw [← hyv] at d1
                have f1 : ((ni : Int) == 0) = false := by rw [beq_eq_false_iff_ne]; omega
                have f2 : (0 : Int) < (ni : Int) := by omega
                obtain ⟨A7b, c7b, e7b, _⟩ := hin.1.got.r8
                obtain ⟨n7b, hn7b⟩ : ∃ n7b, n7b = (G8 ++ (headsQ P).take j).length := ⟨_, rfl⟩
                rw [← hn7b] at e7b
                subst e7b
                have hinA := hin.on (belowA wr (.cells #[.int .u8 (yv.toNat : Int)] 5))
                have oG := hinA.1.got
                have rA := one_r8 wr yv (yv.toNat : Int) rfl
                have HBD := Lib.hid (⟨by rw [List.length_append, List.length_take, headsQ_len]; have := HP.out.2; omega, hinA.1.below.size, hinA, hyv, hjp⟩ : (G8 ++ (headsQ P).take j).length + 1 ≤ 140737488355328 ∧ _ ∧ _ ∧ _ ∧ _)
                obtain ⟨GL, hGL⟩ : ∃ GL, GL = G8 ++ (headsQ P).take j := ⟨_, rfl⟩
                rw [← hGL] at oG
                have HGL := Lib.hid hGL
                have HB1 : Hid (GL.length + 1 ≤ 140737488355328) := Lib.hid (by rw [hGL]; exact HBD.out.1)
                have HB2 := Lib.hid HBD.out.2.1
                clear hin hcc r8 hPm hPl hnil hc8 hyv hn7b hinA hGL hjp HIN
                go_wp2_with (at_builtin; go_loud (with_reducible refine wpList_append8 rfl (.tmp 93) (.tmp 97) rfl rfl w.heap.size (.slice A7b n7b c7b) GL (by with_unfolding_all rfl) oG _ _ 1 1 [yv] (by with_unfolding_all rfl) rA HB1.out HB2.out ?_); intro v9 w9 h9)
                have HN9 := Lib.hid (HBD.out.2.2.1.grow HBD.out.2.2.2.2 (by rw [← HBD.out.2.2.2.1, ← HGL.out]; exact h9))
                clear h9 oG rA d0 d1
                go_roundw
                case rel => exact ⟨j + 1, _, rfl, by omega, by go_num, HN9⟩
                case measure => simp [intOf]; omega
              · have t1 : decide ((j : Int) < (no : Int)) = false := by simp; omega
                have hjno : j = no := by omega
                subst hjno
                have hin := HIN.out
                have htk : (headsQ P).take j = headsQ P := List.take_of_length_le (by rw [headsQ_len, hin.2.1.1]; exact Nat.le_refl _)
                have ho9 := hin.1
                rw [htk] at ho9
                clear hin htk HIN
                have HT2 : Hid (OrT w G gb r (p + 1) (.slice A6 n6 c6) b7 wr) := Lib.hid ⟨_, _, _, _, _, _, ho9, HF.out.1, HF.out.2.1, HF.out.2.2.1, HF.out.2.2.2.1, HF.out.2.2.2.2⟩
                clear ho9
                go_wp2_with fail
                go_roundw
                case rel => exact ⟨p + 1, _, rfl, by omega, by go_num, HT2⟩
                case measure => simp [intOf]; omega
      · have g1 : decide ((q : Int) < (n : Int)) = false := by simp; omega
        clear HS
        go_wp2_with fail
        go_loopw [7, 12, 14, 84, 85, 86] (fun v7 i _ _ _ _ wr => ∃ (p : Nat) (a7 : Value), a7 = v7 ∧ p ≤ 16 ∧ i = .int .i64 (p : Int) ∧ Hid (OrT w G gb r p (.slice A6 n6 c6) a7 wr)) (fun _ i _ _ _ _ _ => 100 - (intOf i).toNat)
        case atStart => exact ⟨0, _, rfl, by omega, rfl, HT⟩
        case round =>
          obtain ⟨p, a7, rfl, hp16, rfl, HT⟩ := hrel
          obtain ⟨l, Q, cut, S, W8, G8, ho, hoq, hcut, hheads, hwl, hQp⟩ := HT.out
          have t1 : decide ((p : Int) < 100) = true := by simp; omega
          obtain ⟨nq, hnq⟩ : ∃ nq, nq = Q.length := ⟨_, rfl⟩
          have hlen := pq_len ho.pq
          rw [← hnq] at hlen
          have HNQ := Lib.hid hnq
          have HK := Lib.hid (⟨ho, hoq, hcut, hheads, hwl, hQp⟩ : _ ∧ _ ∧ _ ∧ _ ∧ _ ∧ _)
          clear hnq ho hoq hcut hheads hwl hQp HT
          go_wp2_with fail
          ((with_reducible refine hlen.mono ?_); rintro e V1 hd)
          have d1 := hd.below
          obtain ⟨rfl, _⟩ := hd
          obtain ⟨ho, hoq, hcut, hheads, hwl, hQp⟩ := HK.out
          have ho := ho.on d1
          clear hlen d1 HK
          by_cases hQ0 : Q = []
          · subst hQ0
            have hnq0 : nq = 0 := HNQ.out
            subst hnq0
            obtain ⟨A7b, c7b, e7b, r7⟩ := ho.got.r8
            obtain ⟨n7b, hn7b⟩ : ∃ n7b, n7b = G8.length := ⟨_, rfl⟩
            rw [← hn7b] at e7b r7
            subst e7b
            obtain ⟨A6b, c6b, e6b, r6⟩ := ho.want.r8
            injection e6b with e6b e6c e6d
            subst e6b e6d
            rw [← e6c] at r6
            have hWG : W8 = G8 := by rw [hheads]; simp [headsQ]
            subst hWG
            have cv7 : (convert 29 9 (.slice A7b n7b c7b)).run Try.prog V1 = .ok (.string (strB W8)) V1 := r7.string (P := Try.prog) 29 5 9 Try.underlying29 Try.underlying5 Try.underlying9
            have cv6 : (convert 29 9 (.slice A6 n6 c6)).run Try.prog V1 = .ok (.string (strB W8)) V1 := r6.string (P := Try.prog) 29 5 9 Try.underlying29 Try.underlying5 Try.underlying9
            have HK := Lib.hid ho
            clear ho hoq hcut hheads hwl hQp r7 r6 hn7b e6c
            go_wp2_with fail
            ((with_reducible refine (pq_len HK.out.pq).mono ?_); rintro e V2 hd)
            have d2 := hd.below
            obtain ⟨rfl, _⟩ := hd
            have b2 := HK.out.below.trans (d2.mono HK.out.below.size)
            clear d2 cv7 cv6
            go_wp2_with fail
            ((with_reducible refine (known11_any _).mono ?_); rintro e V3 ⟨rfl, d3⟩)
            have b3 := b2.trans (d3.mono b2.size)
            clear d3 b2
            go_wp2_with fail
            go_ret
            exact ⟨rfl, b3⟩
          · have hQpos : 0 < Q.length := List.length_pos_iff.2 hQ0
            have hnq1 : 0 < nq := by rw [HNQ.out]; exact hQpos
            have t2 : decide ((0 : Int) < (nq : Int)) = true := by simp; omega
            have t3 : decide (0 < nq) = true := by simp; omega
            have t4 : (0 : Int) < (nq : Int) := by omega
            have hp15 : p ≤ 15 := by omega
            obtain ⟨l4, hTT, hoq4, hless⟩ := ord_sec HRR.out.1 HRR.out.2 hoq hQpos
            have ht := pq_tick_at ho.pq hoq.ok (IC.out 1000000 (by omega) (by omega)) hTT.out
            have HK := Lib.hid (⟨ho, hoq4, hcut, hheads, hwl, hQp, hless⟩ : _ ∧ _ ∧ _ ∧ _ ∧ _ ∧ _ ∧ _)
            clear ho hoq hoq4 hcut hheads hwl hQp hless hTT hnq1 hQpos hQ0
            go_wp2_with fail
            ((with_reducible refine ht.mono ?_); rintro e W4 ⟨rfl, S3, p3, hS3, ho3⟩)
            obtain ⟨ho, hoq4, hcut, hheads, hwl, hQp, hless⟩ := HK.out
            have ho4 := ho.turn p3 hS3 ho3
            have hg := pq_go ho4.pq hoq4.ok hoq4.qu (fun b hb => Nat.le_trans (hoq4.small b hb).2 (by omega))
            clear ht p3 hS3 ho3 HK ho
            have HX := Lib.hid (⟨hheads, hwl, hQp, hless⟩ : _ ∧ _ ∧ _ ∧ _)
            clear hheads hwl hQp hless
            go_wp2_with fail
            ((with_reducible refine hg.mono ?_); rintro e W5 ⟨Ao, no, co, S4, F, rfl, rb, hF, p5, hS5, ho5, hFS⟩)
            obtain ⟨hheads, hwl, hQp, hless⟩ := HX.out
            have ho5' := ho4.turn p5 hS5 ho5
            have hin : InS w G gb r (goL l4 Q) (goR l4 Q) cut S4 (.slice A6 n6 c6) W8 G8 (goO l4 Q) F Ao no co 0 a7 W5 := by
              refine ⟨by rw [List.take_zero, List.append_nil]; exact ho5', rb, fun k hk e => ?_⟩
              rcases hF k hk with h1 | h1
              · exact ho4.s7 k h1 e
              · have := (ho4.lt7 e).2
                omega
            have hPs : ∀ b ∈ goO l4 Q, 0 < b.length ∧ b.length ≤ 301 := fun b hb => hoq4.small b (goO_mem hb)
            have hgl : G8.length + (goO l4 Q).length ≤ 100 := by
              have h1 := congrArg List.length hheads
              rw [List.length_append, headsQ_len] at h1
              have h2 := goO_len l4 Q
              omega
            have hq4 : (goR l4 Q).length + (p + 1) ≤ 16 := by omega
            have HF := Lib.hid (⟨hoq4.go, hcut, heads_go (l := l4) hheads, hwl, hq4⟩ : _ ∧ _ ∧ _ ∧ _ ∧ _)
            have HIN := Lib.hid hin
            have HP := Lib.hid (⟨hPs, hgl⟩ : _ ∧ _)
            clear hg ho4 hoq4 hcut hheads hwl rb hF p5 hS5 ho5 hFS ho5' hin hPs hgl hq4 hQp hless HX
            generalize goL l4 Q = l3 at *
            generalize goR l4 Q = Q3 at *
            generalize goO l4 Q = P at *
            go_wp2_with fail
            have hno100 : no ≤ 100 := by have h1 := HIN.out.2.1.1; have h2 := HP.out.2; omega
            go_loopw [7, 14, 86] (fun v _ i wx => ∃ (j : Nat) (b7 : Value), b7 = v ∧ j ≤ no ∧ i = .int .i64 (j : Int) ∧ Hid (InS w G gb r l3 Q3 cut S4 (.slice A6 n6 c6) W8 G8 P F Ao no co j b7 wx)) (fun _ _ i _ => no - (intOf i).toNat)
            case atStart => exact ⟨0, _, rfl, by omega, rfl, HIN⟩
            case round =>
              obtain ⟨j, b7, rfl, hjn, rfl, HIN⟩ := hrel
              by_cases hjl : j < no
              · have t1 : decide ((j : Int) < (no : Int)) = true := by simp; omega
                have t3 : (j : Int) < (no : Int) := by omega
                have hin := HIN.out
                obtain ⟨bo, of3, hAo, _, hcc⟩ := hin.2.1.2.2.2 (by omega)
                subst hAo
                obtain ⟨Ai, ni, ci, d0, r8, _⟩ := hcc j hjl
                have hjp : j < P.length := by rw [hin.2.1.1]; exact hjl
                have hPm : P.getD j [] ∈ P := by
                  rw [List.getD_eq_getElem?_getD, List.getElem?_eq_getElem hjp]
                  exact List.getElem_mem hjp
                have hPl := (HP.out.1 _ hPm).1
                have hnil := r8.1
                have hni0 : 0 < ni := by omega
                obtain ⟨b2, of4, hAi, _, hc8⟩ := r8.2.2 hni0
                subst hAi
                have d1 : wr.cell? ⟨b2, of4, none⟩ = some (.int .u8 (((P.getD j []).headD 0).toNat : Int)) := by
                  have := hc8 0 hni0
                  rw [Nat.add_zero] at this
                  rw [this]
                  congr 3
                  cases P.getD j [] with
                  | nil => rfl
                  | cons a b => rfl
                obtain ⟨yv, hyv⟩ : ∃ yv, yv = (P.getD j []).headD 0 := ⟨_, rfl⟩
                rw [← hyv] at d1
                have f1 : ((ni : Int) == 0) = false := by rw [beq_eq_false_iff_ne]; omega
                have f2 : (0 : Int) < (ni : Int) := by omega
                obtain ⟨A7b, c7b, e7b, _⟩ := hin.1.got.r8
                obtain ⟨n7b, hn7b⟩ : ∃ n7b, n7b = (G8 ++ (headsQ P).take j).length := ⟨_, rfl⟩
                rw [← hn7b] at e7b
                subst e7b
                have hinA := hin.on (belowA wr (.cells #[.int .u8 (yv.toNat : Int)] 5))
                have oG := hinA.1.got
                have rA := one_r8 wr yv (yv.toNat : Int) rfl
                have HBD := Lib.hid (⟨by rw [List.length_append, List.length_take, headsQ_len]; have := HP.out.2; omega, hinA.1.below.size, hinA, hyv, hjp⟩ : (G8 ++ (headsQ P).take j).length + 1 ≤ 140737488355328 ∧ _ ∧ _ ∧ _ ∧ _)
                obtain ⟨GL, hGL⟩ : ∃ GL, GL = G8 ++ (headsQ P).take j := ⟨_, rfl⟩
                rw [← hGL] at oG
                have HGL := Lib.hid hGL
                have HB1 : Hid (GL.length + 1 ≤ 140737488355328) := Lib.hid (by rw [hGL]; exact HBD.out.1)
                have HB2 := Lib.hid HBD.out.2.1
                clear hin hcc r8 hPm hPl hnil hc8 hyv hn7b hinA hGL hjp HIN
                go_wp2_with (at_builtin; go_loud (with_reducible refine wpList_append8 rfl (.tmp 93) (.tmp 97) rfl rfl w.heap.size (.slice A7b n7b c7b) GL (by with_unfolding_all rfl) oG _ _ 1 1 [yv] (by with_unfolding_all rfl) rA HB1.out HB2.out ?_); intro v9 w9 h9)
                have HN9 := Lib.hid (HBD.out.2.2.1.grow HBD.out.2.2.2.2 (by rw [← HBD.out.2.2.2.1, ← HGL.out]; exact h9))
                clear h9 oG rA d0 d1
                go_roundw
                case rel => exact ⟨j + 1, _, rfl, by omega, by go_num, HN9⟩
                case measure => simp [intOf]; omega
              · have t1 : decide ((j : Int) < (no : Int)) = false := by simp; omega
                have hjno : j = no := by omega
                subst hjno
                have hin := HIN.out
                have htk : (headsQ P).take j = headsQ P := List.take_of_length_le (by rw [headsQ_len, hin.2.1.1]; exact Nat.le_refl _)
                have ho9 := hin.1
                rw [htk] at ho9
                clear hin htk HIN
                have HT2 : Hid (OrT w G gb r (p + 1) (.slice A6 n6 c6) b7 wr) := Lib.hid ⟨_, _, _, _, _, _, ho9, HF.out.1, HF.out.2.1, HF.out.2.2.1, HF.out.2.2.2.1, HF.out.2.2.2.2⟩
                clear ho9
                go_wp2_with fail
                go_roundw
                case rel => exact ⟨p + 1, _, rfl, by omega, by go_num, HT2⟩
                case measure => simp [intOf]; omega
end Go.Proofs.Ytdjopbhjfnakdaa
