/- Law 12's helper: play, of any asks. -/
import Derived.Test.YtkhhaokelhmikaaAlH
import Derived.Deep.Cut
import Derived.Deep.CutBlock
namespace Go.Proofs.Ytkhhaokelhmikaa
open Go.RowKit
set_option linter.unusedVariables false
set_option linter.unusedSimpArgs false
set_option maxRecDepth 20000

/-- What stands between the asks: the table holds what the row says. -/
def Pl12 (w0 : World) (G q : Nat) (v : Value) (W : World) : Prop := ∃ L S, TbS w0 G L S W ∧ OwnD W w0.heap.size v L ∧ (∀ k, v.ownBlock = some k → ¬ S k) ∧ L.length ≤ q
/-- .. behind the switch. -/
def Mid12 (w0 : World) (G ga : Nat) (kd : Int) (kk : Nat) (nn : Int) (q : Nat) (v : Value) (W : World) : Prop := ∃ L S, Pm w0 G ga kd kk nn L L S v W ∧ L.length ≤ q + 1
theorem Mid12.on {w0 : World} {G ga : Nat} {kd nn : Int} {kk q : Nat} {v : Value} {W W' : World} (h : Mid12 w0 G ga kd kk nn q v W) (hb : Below W.heap.size W W') : Mid12 w0 G ga kd kk nn q v W' := by
  obtain ⟨L, S, P, hl⟩ := h
  exact ⟨L, S, P.on hb, hl⟩
/-- .. in the loop that takes those that are due. -/
def Due12 (w0 : World) (G ga : Nat) (kd : Int) (kk : Nat) (nn : Int) (N : Nat) (L0 : List Du) (S : Nat → Prop) (v : Value) (A : Option Addr) (n c : Nat) (W : World) : Prop := ∃ M r, Pm w0 G ga kd kk nn L0 M S v W ∧ RD W W.heap.size A n c r ∧ DueR M nn r ∧ Keys M ∧ lateK M nn = L0 ∧ M.length ≤ N
set_option maxHeartbeats 8000000 in
theorem play_any (A : Option Addr) (n c : Nat) (asks : List Ask) (w : World) (h : RA w w.heap.size A n c asks) (hn : n ≤ 5864062014805) :
    Calls Try.prog 7 #[.slice A n c] w (Yes w) := by
  have hlen := Lib.hid h.1
  have hin := Lib.hid h.2.1
  have HRA := Lib.hid h
  clear h
  go_enter Try.func7, Try.ntmps7
  go_wp2_with fail
  refine (tb_new _).mono ?_
  rintro e w1 ⟨G, S, rfl, p0, hS, b0⟩
  have HP : Hid (Pl12 w G 0 (.slice none 0 0) w1) := Lib.hid ⟨[], S, ⟨p0, keys_nil, (fun x hx => by cases hx), (by simp), hS, b0⟩, OwnD.nil _ _, (fun k hk => by cases hk), Nat.le_refl _⟩
  clear p0 hS b0
  go_wp2_with fail
  go_loopw [4, 5] (fun v i wr => ∃ q : Nat, q ≤ n ∧ q ≤ 120 ∧ i = .int .i64 (q : Int) ∧ Hid (Pl12 w G q v wr)) (fun _ i _ => 120 - (intOf i).toNat)
  case atStart => exact ⟨0, by omega, by omega, rfl, HP⟩
  case round =>
    obtain ⟨q, hqn, hq, rfl, HP⟩ := hrel
    by_cases hlt : q < n ∧ q < 120
    · obtain ⟨hl1, hl2⟩ := hlt
      have g1 : decide ((q : Int) < (n : Int)) = true := by simp; omega
      have g2 : decide ((q : Int) < 120) = true := by simp; omega
      have g3 : (q : Int) < (n : Int) := by omega
      obtain ⟨L, S, hs, hown, hsep, hll⟩ := HP.out
      have hql : q < asks.length := by have := hlen.out; omega
      obtain ⟨bA, off, rfl, hbA, x0, x1, x2⟩ := (HRA.out.below hs.below).at (q := q) hql
      obtain ⟨hk64, hkey, hn64⟩ := hin.out asks[q] (List.getElem_mem hql)
      generalize asks[q].kind = kd at x0 hk64
      generalize asks[q].key = kk at x1 hkey
      generalize asks[q].n = nn at x2 hn64
      have hs0 := hs.on (belowA wr (.cells #[.int .i64 kd, .int .u64 (kk : Int), .int .i64 nn] 25))
      have ho0 := hown.on (belowA wr (.cells #[.int .i64 kd, .int .u64 (kk : Int), .int .i64 nn] 25))
      have HA0 : Blk (wr.alloc (.cells #[.int .i64 kd, .int .u64 (kk : Int), .int .i64 nn] 25)) wr.heap.size 25 #[.int .i64 kd, .int .u64 (kk : Int), .int .i64 nn] := Blk.new _ _ _
      obtain ⟨Av, cv, rfl, rv, _⟩ := ho0.rd hs.ins
      have H0 : Hid (Pm w G wr.heap.size kd kk nn L L S (.slice Av L.length cv) (wr.alloc (.cells #[.int .i64 kd, .int .u64 (kk : Int), .int .i64 nn] 25))) := Lib.hid ⟨hs0, ho0, hsep, HA0, fun hk => (by have := hs.tb.lt hk; omega), hs.below.size, hs.ins, by omega⟩
      obtain ⟨m, hm⟩ : ∃ m, m = L.length := ⟨_, rfl⟩
      rw [← hm] at H0 hll ⊢
      have HM := Lib.hid hm
      have HX := Lib.hid (⟨hll, hk64, hkey, hn64, hl1, hl2⟩ : _ ∧ _ ∧ _ ∧ _ ∧ _ ∧ _)
      clear hs hown hs0 ho0 HA0 HP hbA hql hsep rv hm hll hk64 hkey hn64
      go_upto_if 34 with (fail)
      generalize wr.alloc (.cells #[.int .i64 kd, .int .u64 (kk : Int), .int .i64 nn] 25) = W at H0 ⊢
      generalize wr.heap.size = ga at H0 ⊢
      clear x0 x1 x2 g1 g2 g3 hl1 hl2
      have e0 := H0.out.ask.cell 0
      have e1 := H0.out.ask.cell 1
      have e2 := H0.out.ask.cell 2
      go_upto_block 2 with (fail)
      go_cut [4, 8, 9] from 39 to 115 (fun v _ _ wx => Hid (Mid12 w G ga kd kk nn q v wx))
      case first =>
        by_cases k3 : kd = 3
        · subst k3
          have rv := H0.out.rd
          rw [← HM.out] at rv
          obtain ⟨A', c', ev, rv⟩ := rv
          injection ev with ev1 ev2 ev3
          subst ev1
          subst ev3
          have ch := drop_any Av m cv L kk W rv (by have := HX.out.1; have := HX.out.2.2.2.2.2; omega) HX.out.2.2.1
          clear rv ev2
          go_wp2_with fail
          ((with_reducible refine ch.mono ?_); rintro e W2 ⟨v2, rfl, o2, b2⟩)
          have P2 := H0.out.redo o2 b2 (dropK_in H0.out.ins kk) (Nat.le_trans (dropK_len L kk) (by have := H0.out.len; omega))
          clear ch o2 b2 e0 e1 e2
          obtain ⟨A2, c2, rfl, _⟩ := P2.rd
          have hl0 := H0.out.tb.len
          obtain ⟨m2, hm2⟩ : ∃ m2, m2 = (dropK L kk).length := ⟨_, rfl⟩
          rw [← hm2] at P2 ⊢
          have e1 := P2.ask.cell 1
          have cc := tb_clear P2.tb.tb P2.tb.keys P2.tb.ins P2.tb.len HX.out.2.2.1
          have P3 := fun e W' (ho : TbOut G (dropK L kk) S (.bool (hasK L kk)) W2 e W') => P2.out ho (dropK_keys P2.tb.keys kk) (dropK_in P2.tb.ins kk) (Nat.le_trans (dropK_len L kk) hl0)
          have hlt2 : m2 ≤ m := by rw [hm2, HM.out]; exact dropK_len L kk
          obtain ⟨tv, htv⟩ : ∃ tv, tv = hasK L kk := ⟨_, rfl⟩
          rw [← htv] at cc P3
          rw [hasK_len, ← hm2, ← HM.out] at htv
          have HP3 := Lib.hid P3
          have HM2 := Lib.hid (⟨hm2, hlt2⟩ : _ ∧ _)
          clear P3 P2 hm2 H0 hl0 hlt2
          go_wp2_with fail
          ((with_reducible refine cc.mono ?_); rintro e W3 ho)
          obtain ⟨rfl, S3, P3⟩ := HP3.out _ _ ho
          have HF : Hid (Mid12 w G ga 3 kk nn q (.slice A2 m2 c2) W3) := Lib.hid ⟨_, S3, P3, by have := HM2.out; have := HX.out.1; omega⟩
          clear P3 ho cc HP3 e1
          cases tv
          · have d1 : decide (m2 < m) = false := htv.symm
            have d2 : ¬ m2 < m := by simpa using d1
            have d3 : decide ((m2 : Int) < (m : Int)) = false := by simp; omega
            clear htv HM2
            go_wp2_with fail
            go_meet
            exact HF
          · have d1 : decide (m2 < m) = true := htv.symm
            have d2 : m2 < m := by simpa using d1
            have d3 : decide ((m2 : Int) < (m : Int)) = true := by simp; omega
            clear htv HM2
            go_wp2_with fail
            go_meet
            exact HF
        have j3 : ((kd : Int) == 3) = false := by rw [beq_eq_false_iff_ne]; exact k3
        by_cases k4 : kd = 4
        · subst k4
          have cd := tb_due H0.out.tb.tb H0.out.tb.keys H0.out.tb.ins H0.out.tb.len HX.out.2.2.2.1
          go_wp2_with fail
          ((with_reducible refine cd.mono ?_); rintro e W2 ⟨Ao, no, co, R, S3, rfl, hR, rdo, _, t3, hS3, ho3⟩)
          have P2 := H0.out.turn t3 hS3 ho3 (lateK_keys H0.out.tb.keys nn) (lateK_in H0.out.tb.ins nn) (Nat.le_trans (lateK_len L nn) H0.out.tb.len)
          have HD : Hid (Due12 w G ga 4 kk nn m (lateK L nn) S3 (.slice Av m cv) Ao no co W2) := Lib.hid ⟨L, R, P2, rdo, hR, H0.out.tb.keys, rfl, by rw [HM.out]; exact Nat.le_refl _⟩
          clear cd hR rdo t3 hS3 ho3 P2 e0 e1 e2 H0
          go_wp2_with fail
        --D1
          go_loopw [4, 8] (fun v g wr => ∃ (Ar : Option Addr) (nr cr : Nat), g = .slice Ar nr cr ∧ Hid (Due12 w G ga 4 kk nn m (lateK L nn) S3 v Ar nr cr wr)) (fun _ g _ => lenOf g)
          case atStart => exact ⟨Ao, no, co, rfl, HD⟩
          case round =>
            clear HD
            obtain ⟨Ar, nr, cr, rfl, HD⟩ := hrel
            obtain ⟨M, r, P, rdr, hR, hK, hLt, hMl⟩ := HD.out
            obtain ⟨Aw, cw, hv, rdw⟩ := P.rd
            subst hv
            have hqm : m ≤ 120 := by have := HX.out.1; have := HX.out.2.2.2.2.2; omega
            have HC : Hid (∀ k, Calls Try.prog 16 #[.slice Aw M.length cw] (wr.drewN k) fun e w' => e = .returned (.int .i64 ((bestI M : Nat) : Int)) ∧ ∃ m, w' = (wr.drewN k).drewN m) := Lib.hid (fun k => first_any _ _ _ _ _ _ (rdw.on (belowDrewN wr k)) (by omega))
            have HP := Lib.hid P
            have HR := Lib.hid hR
            have HRD := Lib.hid rdr
            have HKL := Lib.hid (⟨hK, hLt, hMl⟩ : _ ∧ _ ∧ _)
            have e2 := P.ask.cell 2
            by_cases h0 : M.length = 0
            · have hdn := hR.done (.inl h0)
              have hr0 : nr = 0 := by rw [← rdr.1, hdn.1]; rfl
              subst hr0
              have HF : Hid (Mid12 w G ga 4 kk nn q (.slice Aw M.length cw) wr) := Lib.hid ⟨M, S3, by rw [← hLt, hdn.2] at P; exact P, by have := HX.out.1; omega⟩
              obtain ⟨mw, hmw⟩ : ∃ mw, mw = M.length := ⟨_, rfl⟩
              rw [← hmw] at HF HC h0 ⊢
              clear P rdr hR hK hLt hMl rdw HD HP HR HRD HKL hdn hmw
              have z1 : ¬ 0 < mw := by omega
              have z2 : decide (0 < mw) = false := by simp; omega
              go_upto_region 19 with (fail)
              go_quiet (fail)
              go_wp2_with fail
              go_meet
              exact Lib.hid (HF.out.on (belowDrewN wr _))
            have hpos : 0 < M.length := by omega
            obtain ⟨bw, ofw, rfl, hbw, hcw⟩ := rdw.getD hpos
            have hbi := bestI_lt hpos
            obtain ⟨c0, c1⟩ := hcw _ hbi
            have hfm := firstD_mem hpos
            obtain ⟨x, hx⟩ : ∃ x, x = firstD M := ⟨_, rfl⟩
            have hfd : M.getD (bestI M) zD = x := hx.symm
            rw [hfd] at c0 c1
            rw [← hx] at hfm
            obtain ⟨xt, xk⟩ := x
            simp only at c0 c1
            obtain ⟨mw, hmw⟩ : ∃ mw, mw = M.length := ⟨_, rfl⟩
            have HMW := Lib.hid hmw
            rw [← hmw] at HC hpos hbi ⊢
            have HXF := Lib.hid (⟨hx, hfm⟩ : _ ∧ _)
            clear P rdw hcw hbw hfm hfd hmw HD
            have z1 : decide (0 < mw) = true := by simp; omega
            have hbe : Hid (bestI M = bestI M) := Lib.hid rfl
            generalize bestI M = bi at *
            have z3 : (bi : Int) < (mw : Int) := by omega
            by_cases hdue : xt ≤ nn
            · obtain ⟨r', hr'⟩ := hR.more (by rw [← HMW.out]; exact hpos) (by rw [← hx]; exact hdue)
              rw [← hx] at hr'
              subst hr'
              obtain ⟨br, ofr, rfl, hbr, hn0, hnc, d0, d1⟩ := rdr.head
              simp only at d0 d1
              have HN : Hid (DueR (dropK M xk) nn r' ∧ Keys (dropK M xk) ∧ lateK (dropK M xk) nn = lateK L nn ∧ (dropK M xk).length ≤ m ∧ InD (dropK M xk)) := Lib.hid ⟨hR.step hK, dropK_keys hK xk, (late_drop hK HXF.out.2 hdue).trans hLt, Nat.le_trans (dropK_len M xk) hMl, dropK_in HP.out.ins xk⟩
              have z4 : decide (xt ≤ nn) = true := decide_eq_true hdue
              have z5 : ((nr : Int) == 0) = false := by rw [beq_eq_false_iff_ne]; omega
              have hkb : xk < 18446744073709551616 := (HP.out.ins _ HXF.out.2).k
              have HKB := Lib.hid (⟨hkb, hMl⟩ : _ ∧ _)
              clear rdr hR hK hLt hMl HR HKL hx h0 hkb hdue hbe hbr
              go_upto_region 19 with (fail)
              go_quiet ((go_at_call 16; refine Calls.quiet_of (HC.out _)))
              go_wp2_with fail
              ((with_reducible refine (HC.out _).mono ?_); rintro e W3 ⟨rfl, q3, hW3⟩)
              have b3 : Below wr.heap.size wr W3 := by rw [hW3, World.drewN_drewN]; exact belowDrewN wr _
              have P3 := HP.out.on b3
              have RD3 := HRD.out.on b3
              have c0 : W3.cell? ⟨bw, ofw + bi * 2, none⟩ = some (.int .i64 xt) := by rw [hW3]; exact c0
              have c1 : W3.cell? ⟨bw, ofw + bi * 2 + 1, none⟩ = some (.int .u64 (xk : Int)) := by rw [hW3]; exact c1
              have P4 := P3.on (belowA W3 (.cells #[.int .i64 xt, .int .u64 (xk : Int)] 35))
              have RD4 := RD3.on (belowA W3 (.cells #[.int .i64 xt, .int .u64 (xk : Int)] 35))
              have D4 : Blk (W3.alloc (.cells #[.int .i64 xt, .int .u64 (xk : Int)] 35)) W3.heap.size 35 #[.int .i64 xt, .int .u64 (xk : Int)] := Blk.new _ _ _
              have H4 := Lib.hid (⟨P4, RD4, D4⟩ : _ ∧ _ ∧ _)
              clear P3 RD3 P4 RD4 D4 b3 hW3 HP HRD e2 HC d0 d1
              go_upto_region 21 with (fail)
              generalize W3.alloc (.cells #[.int .i64 xt, .int .u64 (xk : Int)] 35) = W4 at H4 ⊢
              generalize W3.heap.size = gd at H4 ⊢
              clear c0 c1
              obtain ⟨P4, RD4, D4⟩ := H4.out
              obtain ⟨_, _, er, _, _, _, d0, d1⟩ := RD4.head
              injection er with er
              injection er with er1 er2
              subst er1
              subst er2
              simp only at d0 d1
              have f0 := D4.cell 0
              have f1 := D4.cell 1
              clear P4 RD4 D4
              go_quiet (fail)
              go_upto_region 23 with (fail)
              generalize hW5 : W4.drewN nq = W5
              have H5 : Hid (Pm w G ga 4 kk nn (lateK L nn) M S3 (.slice (some ⟨bw, ofw, none⟩) mw cw) W5 ∧ RD W5 W5.heap.size (some ⟨br, ofr, none⟩) nr cr (⟨xt, xk⟩ :: r') ∧ Blk W5 gd 35 #[.int .i64 xt, .int .u64 (xk : Int)]) := Lib.hid (by
                rw [← hW5]
                have P4 := H4.out.1
                rw [← HMW.out] at P4
                exact ⟨P4.on (belowDrewN W4 _), H4.out.2.1.on (belowDrewN W4 _), ((belowDrewN W4 _).block gd H4.out.2.2.lt).trans H4.out.2.2⟩)
              clear hW5 H4 d0 d1 f0 f1
              obtain ⟨B, hB⟩ : ∃ B, B = W5.heap.size := ⟨_, rfl⟩
              refine wp_region_f (F := duF w G ga 4 kk nn (lateK L nn) M S3 (.slice (some ⟨bw, ofw, none⟩) mw cw) B gd ⟨xt, xk⟩) [.val (.slice (some ⟨br, ofr, none⟩) nr cr), .val (.slice (cutD (some ⟨br, ofr, none⟩) cr 1) (nr - 1) (cr - 1)), .val (.slice (some ⟨bw, ofw, none⟩) mw cw), .val (.pointer (some ⟨gd, 1, none⟩)), .val (.int .u64 (xk : Int)), duD w G ga 4 kk nn (lateK L nn) M S3 (.slice (some ⟨bw, ofw, none⟩) mw cw) B gd ⟨xt, xk⟩, .val (.slice (cutD (some ⟨br, ofr, none⟩) cr 1) (nr - 1) (cr - 1)), duD w G ga 4 kk nn (lateK L nn) M S3 (.slice (some ⟨bw, ofw, none⟩) mw cw) B gd ⟨xt, xk⟩]
                (by kernel_rfl) (by kernel_rfl) (by kernel_rfl) ⟨H5.out.1, by omega, H5.out.2.2⟩ (AllOblF.all ⟨?_, ?_, ?_, ?_, ?_, ?_, ?_, ?_, trivial⟩) ?_
              · exact OblF.move rfl _ (Or.inl rfl) (by kernel_rfl) rfl
              · refine OblF.pure rfl (.slice (cutD (some ⟨br, ofr, none⟩) cr 1) (nr - 1) (cr - 1)) (by kernel_rfl) rfl fun ev W hI hf hx => ?_
                have e106 : ev (.tmp 106) = .slice (some ⟨br, ofr, none⟩) nr cr := holds_valF (hx (.tmp 106)) (by kernel_rfl)
                have k1 : ev (.const (.int .i64 1)) = .int .i64 1 := holds_valF (hx (.const (.int .i64 1))) (by kernel_rfl)
                have hr := run_fromD W (some ⟨br, ofr, none⟩) nr cr 1 (by omega) hnc
                have hr : (Instr.slice 32 (.slice (some ⟨br, ofr, none⟩) nr cr) (some (.int .i64 1)) none none).run Try.prog W = .ok (.slice (cutD (some ⟨br, ofr, none⟩) cr 1) (nr - 1) (cr - 1)) W := hr
                simp [execOp, e106, k1, go_sem, hr]
              · exact OblF.move rfl _ (Or.inl rfl) (by kernel_rfl) rfl
              · refine OblF.pure rfl (.pointer (some ⟨gd, 1, none⟩)) (by kernel_rfl) rfl fun ev W hI hf hx => ?_
                have e9 : ev (.tmp 9) = .pointer (some ⟨gd, 0, none⟩) := holds_valF (hx (.tmp 9)) (by kernel_rfl)
                simp [execOp, e9, go_sem]
              · refine OblF.pure rfl (.int .u64 (xk : Int)) (by kernel_rfl) rfl fun ev W hI hf hx => ?_
                have e109 : ev (.tmp 109) = .pointer (some ⟨gd, 1, none⟩) := holds_valF (hx (.tmp 109)) (by kernel_rfl)
                have d := hI.2.2.cell 1
                simp [execOp, e109, go_sem, d]
              · refine OblF.call rfl 14 #[.tmp 108, .tmp 110] _ rfl Try.f14 Try.func14 (by kernel_rfl) (by kernel_rfl) rfl fun ev W hI hf hx => ?_
                have e108 : ev (.tmp 108) = .slice (some ⟨bw, ofw, none⟩) mw cw := holds_valF (hx (.tmp 108)) (by kernel_rfl)
                have e110 : ev (.tmp 110) = .int .u64 (xk : Int) := holds_valF (hx (.tmp 110)) (by kernel_rfl)
                simp only [List.map_toArray, List.map_cons, List.map_nil, e108, e110]
                obtain ⟨A', c', ev', rv⟩ := hI.1.rd
                rw [← HMW.out] at ev' rv
                injection ev' with ev1 ev2 ev3
                subst ev1
                subst ev3
                refine (drop_any _ mw cw M xk W rv (by have := HKB.out.2; have := HMW.out; omega) HKB.out.1).mono ?_
                rintro e W' ⟨v', rfl, o', b'⟩
                exact ⟨_, rfl, ⟨hI.1.on b', Nat.le_trans hI.2.1 b'.size, (b'.block gd hI.2.2.lt).trans hI.2.2⟩, b', own_less o' hI.2.1⟩
              · exact OblF.move rfl _ (Or.inr rfl) (by kernel_rfl) rfl
              · exact OblF.move rfl _ (Or.inr rfl) (by kernel_rfl) rfl
              intro aa W hI hf hsz hdf hold hv
              have v8 : aa.tmps.getD 8 undef = .slice (cutD (some ⟨br, ofr, none⟩) cr 1) (nr - 1) (cr - 1) := holds_valF (hv 6 (by decide)) (by kernel_rfl)
              have hd : OwnD W B (aa.tmps.getD 4 undef) (dropK M xk) := duD_of (hv 7 (by decide)) (by kernel_rfl)
              have ha := act_puts [106, 107, 108, 109, 110, 111, 8, 4] (by kernel_rfl) hsz hdf hold
              simp only [putAll, v8] at ha
              generalize aa.tmps.getD 106 undef = x106 at ha
              generalize aa.tmps.getD 107 undef = x107 at ha
              generalize aa.tmps.getD 108 undef = x108 at ha
              generalize aa.tmps.getD 109 undef = x109 at ha
              generalize aa.tmps.getD 110 undef = x110 at ha
              generalize aa.tmps.getD 111 undef = x111 at ha
              generalize aa.tmps.getD 4 undef = x4 at ha hd
              clear v8 hv hold hsz hdf
              subst ha
              simp only [List.toList_toArray, List.drop_succ_cons, List.drop_zero, Act.put, List.setIfInBounds_toArray, List.set_cons_succ, List.set_cons_zero]
              have hWW : Below W5.heap.size W5 W := (belowDrewN W5 1).trans hf
              have PN := hI.1.grown (Below.refl B W) (fun k hk => by rw [hB]; exact H5.out.1.tb.tb.lt hk) (by rw [hB]; exact H5.out.1.ask.lt) (by rw [hB]; exact H5.out.1.tb.below.size) hd HN.out.2.2.2.2 (by have := HN.out.2.2.2.1; omega)
              have RN := (H5.out.2.1.on hWW).tail
              have HZ : Hid (Due12 w G ga 4 kk nn m (lateK L nn) S3 x4 (cutD (some ⟨br, ofr, none⟩) cr 1) (nr - 1) (cr - 1) W) := Lib.hid ⟨dropK M xk, r', PN, RN, HN.out.1, HN.out.2.1, HN.out.2.2.1, HN.out.2.2.2.1⟩
              clear hWW PN RN hI hf hd H5 HN hB
              go_roundw
              case rel => ((repeat apply Exists.intro); exact ⟨⟨_, _, _, rfl, HZ⟩, rfl⟩)
              case measure => simp [lenOf]; omega
            · have hdn := hR.done (.inr (by rw [← hx]; show nn < xt; omega))
              have hr0 : nr = 0 := by rw [← rdr.1, hdn.1]; rfl
              subst hr0
              have HF : Hid (Mid12 w G ga 4 kk nn q (.slice (some ⟨bw, ofw, none⟩) mw cw) wr) := Lib.hid ⟨M, S3, by have P := HP.out; rw [← hLt, hdn.2, ← HMW.out] at P; exact P, by have := HX.out.1; have := HMW.out; omega⟩
              have z4 : decide (xt ≤ nn) = false := decide_eq_false hdue
              clear rdr hR hK hLt hMl HP HR HRD HKL hdn hx h0
              go_upto_region 19 with (fail)
              go_quiet ((go_at_call 16; refine Calls.quiet_of (HC.out _)))
              go_wp2_with fail
              go_meet
              exact Lib.hid (HF.out.on (belowDrewN wr _))
        have j4 : ((kd : Int) == 4) = false := by rw [beq_eq_false_iff_ne]; exact k4
        have cs := tb_set H0.out.tb.tb H0.out.tb.keys H0.out.tb.ins H0.out.tb.len HX.out.2.2.1 HX.out.2.2.2.1
        go_wp2_with fail
        ((with_reducible refine cs.mono ?_); rintro e W2 ho)
        obtain ⟨rfl, S2, P2⟩ := H0.out.out ho (setK_keys H0.out.tb.keys kk nn) (setK_in H0.out.tb.ins HX.out.2.2.1 HX.out.2.2.2.1) (Nat.le_trans (setK_len L kk nn) (by have := H0.out.len; omega))
        have hml : m ≤ 120 := by have := HX.out.1; have := HX.out.2.2.2.2.2; omega
        have HP2 := Lib.hid P2
        clear ho cs e0 e1 e2 H0
        go_upto_region 12 with (fail)
        obtain ⟨B, hB⟩ : ∃ B, B = W2.heap.size := ⟨_, rfl⟩
        refine wp_region_ft (F := stF w G ga kd kk nn (setK L kk nn) L S2 (.slice Av m cv) B) 10 [.val (.slice Av m cv), .val (.pointer (some ⟨ga, 1, none⟩)), .val (.int .u64 (kk : Int)), stD w G ga kd kk nn (setK L kk nn) L S2 (.slice Av m cv) B, .val (.pointer (some ⟨ga, 2, none⟩)), .val (.int .i64 nn), .val (.pointer (some ⟨ga, 1, none⟩)), .val (.int .u64 (kk : Int)), .val (.agg #[.int .i64 nn, .int .u64 (kk : Int)]), stL w G ga kd kk nn (setK L kk nn) L S2 (.slice Av m cv) B]
          (by kernel_rfl) (by kernel_rfl) (by kernel_rfl) (by decide) (by kernel_rfl) ⟨P2, by omega⟩ (AllOblF.upto ⟨?_, ?_, ?_, ?_, ?_, ?_, ?_, ?_, ?_, ?_, trivial⟩) ?_
        · exact OblF.move rfl _ (Or.inl rfl) (by kernel_rfl) rfl
        · refine OblF.pure rfl (.pointer (some ⟨ga, 1, none⟩)) (by kernel_rfl) rfl fun ev W hI hf hx => ?_
          have e6 : ev (.tmp 6) = .pointer (some ⟨ga, 0, none⟩) := holds_valF (hx (.tmp 6)) (by kernel_rfl)
          simp [execOp, e6, go_sem]
        · refine OblF.pure rfl (.int .u64 (kk : Int)) (by kernel_rfl) rfl fun ev W hI hf hx => ?_
          have e46 : ev (.tmp 46) = .pointer (some ⟨ga, 1, none⟩) := holds_valF (hx (.tmp 46)) (by kernel_rfl)
          have d := hI.1.ask.cell 1
          simp [execOp, e46, go_sem, d]
        · refine OblF.call rfl 14 #[.tmp 45, .tmp 47] _ rfl Try.f14 Try.func14 (by kernel_rfl) (by kernel_rfl) rfl fun ev W hI hf hx => ?_
          have e45 : ev (.tmp 45) = .slice Av m cv := holds_valF (hx (.tmp 45)) (by kernel_rfl)
          have e47 : ev (.tmp 47) = .int .u64 (kk : Int) := holds_valF (hx (.tmp 47)) (by kernel_rfl)
          simp only [List.map_toArray, List.map_cons, List.map_nil, e45, e47]
          obtain ⟨A', c', ev', rv⟩ := hI.1.rd
          rw [← HM.out] at ev' rv
          injection ev' with ev1 ev2 ev3
          subst ev1
          subst ev3
          refine (drop_any Av m cv L kk W rv (by omega) HX.out.2.2.1).mono ?_
          rintro e W' ⟨v', rfl, o', b'⟩
          exact ⟨_, rfl, ⟨hI.1.on b', Nat.le_trans hI.2 b'.size⟩, b', own_less o' hI.2⟩
        · refine OblF.pure rfl (.pointer (some ⟨ga, 2, none⟩)) (by kernel_rfl) rfl fun ev W hI hf hx => ?_
          have e6 : ev (.tmp 6) = .pointer (some ⟨ga, 0, none⟩) := holds_valF (hx (.tmp 6)) (by kernel_rfl)
          simp [execOp, e6, go_sem]
        · refine OblF.pure rfl (.int .i64 nn) (by kernel_rfl) rfl fun ev W hI hf hx => ?_
          have e49 : ev (.tmp 49) = .pointer (some ⟨ga, 2, none⟩) := holds_valF (hx (.tmp 49)) (by kernel_rfl)
          have d := hI.1.ask.cell 2
          simp [execOp, e49, go_sem, d]
        · refine OblF.pure rfl (.pointer (some ⟨ga, 1, none⟩)) (by kernel_rfl) rfl fun ev W hI hf hx => ?_
          have e6 : ev (.tmp 6) = .pointer (some ⟨ga, 0, none⟩) := holds_valF (hx (.tmp 6)) (by kernel_rfl)
          simp [execOp, e6, go_sem]
        · refine OblF.pure rfl (.int .u64 (kk : Int)) (by kernel_rfl) rfl fun ev W hI hf hx => ?_
          have e51 : ev (.tmp 51) = .pointer (some ⟨ga, 1, none⟩) := holds_valF (hx (.tmp 51)) (by kernel_rfl)
          have d := hI.1.ask.cell 1
          simp [execOp, e51, go_sem, d]
        · refine OblF.pure rfl (.agg #[.int .i64 nn, .int .u64 (kk : Int)]) (by kernel_rfl) rfl fun ev W hI hf hx => ?_
          have e50 : ev (.tmp 50) = .int .i64 nn := holds_valF (hx (.tmp 50)) (by kernel_rfl)
          have e52 : ev (.tmp 52) = .int .u64 (kk : Int) := holds_valF (hx (.tmp 52)) (by kernel_rfl)
          simp [execOp, e50, e52, go_sem]
        · refine OblF.step rfl fun ev W hI hf hx => ?_
          have e53 : ev (.tmp 53) = .agg #[.int .i64 nn, .int .u64 (kk : Int)] := holds_valF (hx (.tmp 53)) (by kernel_rfl)
          have hbW := belowA W (.cells #[.int .i64 nn, .int .u64 (kk : Int)] 35)
          refine ⟨.slice (some ⟨W.heap.size, 0, none⟩) 1 1, W.alloc (.cells #[.int .i64 nn, .int .u64 (kk : Int)] 35), ?_, ?_, hbW, ?_⟩
          · simp [execOp, e53, go_sem]
          · exact ⟨hI.1.on hbW, Nat.le_trans hI.2 hbW.size⟩
          · exact ⟨W.heap.size, rfl, (one_rd W ⟨nn, kk⟩ ⟨HX.out.2.2.2.1, HX.out.2.2.1⟩).more (by simp)⟩
        intro aa W hI hf hsz hdf hold hv
        have hd : OwnD W B (aa.tmps.getD 48 undef) (dropK L kk) := stD_of (hv 3 (by decide)) (by kernel_rfl)
        obtain ⟨g54, v54, r54⟩ := stL_of (hv 9 (by decide)) (by kernel_rfl)
        have v54' : aa.tmps.getD 54 undef = .slice (some ⟨g54, 0, none⟩) 1 1 := v54
        obtain ⟨Ad, cd, v48, _⟩ := hd.rd (dropK_in HP2.out.ins kk)
        rw [v48] at hd
        have ha := act_puts [45, 46, 47, 48, 49, 50, 51, 52, 53, 54, 55, 4] (by kernel_rfl) hsz hdf hold
        simp only [putAll, v48, v54'] at ha
        generalize aa.tmps.getD 45 undef = x45 at ha
        generalize aa.tmps.getD 46 undef = x46 at ha
        generalize aa.tmps.getD 47 undef = x47 at ha
        generalize aa.tmps.getD 49 undef = x49 at ha
        generalize aa.tmps.getD 50 undef = x50 at ha
        generalize aa.tmps.getD 51 undef = x51 at ha
        generalize aa.tmps.getD 52 undef = x52 at ha
        generalize aa.tmps.getD 53 undef = x53 at ha
        generalize aa.tmps.getD 55 undef = x55 at ha
        generalize aa.tmps.getD 4 undef = x4 at ha
        clear v48 v54 v54' hv hold hsz hdf
        subst ha
        simp only [List.toList_toArray, List.drop_succ_cons, List.drop_zero, Act.put, List.setIfInBounds_toArray, List.set_cons_succ, List.set_cons_zero]
        have hds : Hid ((dropK L kk).length + 1 ≤ 8796093022208) := Lib.hid (by have := dropK_len L kk; have := HM.out; omega)
        obtain ⟨md, hmd⟩ : ∃ md, md = (dropK L kk).length := ⟨_, rfl⟩
        rw [← hmd] at hd hds ⊢
        have HPW := Lib.hid hI.1
        have hBW : Hid (B ≤ W.heap.size) := Lib.hid hI.2
        have HS2 : Hid (∀ k, S2 k → k < B) := Lib.hid (fun k hk => by rw [hB]; exact HP2.out.tb.tb.lt hk)
        have HMD := Lib.hid hmd
        have HGA : Hid (ga < B ∧ w.heap.size ≤ B) := Lib.hid (by rw [hB]; exact ⟨HP2.out.ask.lt, HP2.out.tb.below.size⟩)
        have HIN : Hid (InD (setK L kk nn) ∧ (setK L kk nn).length ≤ q + 1) := Lib.hid ⟨HP2.out.tb.ins, Nat.le_trans (setK_len L kk nn) (by have := HX.out.1; have := HM.out; omega)⟩
        clear hmd hI hf P2 HP2 hB
        go_wp2_with (at_builtin; go_loud (with_reducible refine wpList_appendD rfl (.tmp 48) (.tmp 54) rfl rfl B (.slice Ad md cd) (dropK L kk) (by with_unfolding_all rfl) hd _ _ 1 1 [⟨nn, kk⟩] (by with_unfolding_all rfl) r54 (by rw [← HMD.out]; exact hds.out) hBW.out ?_); intro v9 w9 ha9)
        have b9 : Below B W w9 := below_grown (Below.refl B W) hBW.out ha9.2 (fun k hk => (World.ownsRow.lt hd k hk).1)
        go_meet
        exact Lib.hid ⟨setK L kk nn, S2, HPW.out.grown b9 HS2.out HGA.out.1 HGA.out.2 ha9.1 HIN.out.1 (Nat.le_trans HIN.out.2 (by omega)), HIN.out.2⟩
      case rest =>
        obtain ⟨L2, S2, P, hl2⟩ := hcut.out
        have rv := P.rd
        obtain ⟨A2, c2, hv, rd2⟩ := rv
        subst hv
        obtain ⟨m2, hm2⟩ : ∃ m2, m2 = L2.length := ⟨_, rfl⟩
        rw [← hm2] at rd2 ⊢
        have hm2q : m2 ≤ q + 1 := by omega
        have hq120 := HX.out.2.2.2.2.2
        have e1 := P.ask.cell 1
        have ca := tb_at P.tb.tb P.tb.keys P.tb.ins P.tb.len HX.out.2.2.1
        have HP2 := Lib.hid P
        have HR2 := Lib.hid rd2
        have HM2 := Lib.hid hm2
        clear H0 HM P rd2 hcut hl2 hm2 e0 e2
        --R0
        go_wp2_with fail
        ((with_reducible refine ca.mono ?_); rintro e W3 ⟨rfl, b3⟩)
        have P3 := HP2.out.on b3
        have R3 := HR2.out.on b3
        have cn := tb_next P3.tb.tb P3.tb.keys P3.tb.ins P3.tb.len
        rw [← HM2.out] at cn
        have HP3 := Lib.hid P3
        have HR3 := Lib.hid R3
        clear ca HP2 HR2 P3 R3 b3 e1
        obtain ⟨lk, hlk⟩ : ∃ lk, lk = lookK L2 kk := ⟨_, rfl⟩
        obtain ⟨hk, hhk⟩ : ∃ hk, hk = hasK L2 kk := ⟨_, rfl⟩
        have HLK := Lib.hid (⟨hlk, hhk⟩ : _ ∧ _)
        rw [← hlk, ← hhk]
        clear hlk hhk
        obtain ⟨fx, hfx⟩ : ∃ fx, fx = firstD L2 := ⟨_, rfl⟩
        rw [← hfx] at cn
        have HFX := Lib.hid hfx
        clear hfx
        obtain ⟨ft, fk⟩ := fx
        obtain ⟨sm, hsm⟩ : ∃ sm, sm = decide (0 < m2) := ⟨_, rfl⟩
        rw [← hsm] at cn
        have HSM := Lib.hid hsm
        clear hsm
        have cn : Calls Try.prog 17 #[.pointer (some ⟨G, 0, none⟩)] W3 (TbOut G L2 S2 (.tuple #[.agg #[.int .i64 ft, .int .u64 (fk : Int)], .bool sm]) W3) := cn
        go_wp2_with fail
        --R1
        ((with_reducible refine cn.mono ?_); rintro e W4 ho)
        obtain ⟨rfl, S4, P4⟩ := HP3.out.out ho HP3.out.tb.keys HP3.out.tb.ins HP3.out.tb.len
        have R4 := P4.rd
        rw [← HM2.out] at R4
        obtain ⟨A', c', ev, R4⟩ := R4
        injection ev with ev1 ev2 ev3
        subst ev1
        subst ev3
        clear ev2 ho cn HP3 HR3
        have P5 := P4.on (belowA W4 (.cells #[.int .i64 ft, .int .u64 (fk : Int)] 35))
        have R5 := R4.on (belowA W4 (.cells #[.int .i64 ft, .int .u64 (fk : Int)] 35))
        have F5 : Blk (W4.alloc (.cells #[.int .i64 ft, .int .u64 (fk : Int)] 35)) W4.heap.size 35 #[.int .i64 ft, .int .u64 (fk : Int)] := Blk.new _ _ _
        have H5 := Lib.hid (⟨P5, R5, F5⟩ : _ ∧ _ ∧ _)
        clear P4 R4 P5 R5 F5
        --R2
        go_upto_region 28 with (fail)
        --R2b
        generalize W4.alloc (.cells #[.int .i64 ft, .int .u64 (fk : Int)] 35) = W5 at H5 ⊢
        generalize W4.heap.size = gf at H5 ⊢
        obtain ⟨P5, R5, F5⟩ := H5.out
        rw [← HM2.out] at P5
        go_cut [150] from 127 to 150 (fun x wx => x = .bool false ∧ Hid (Pm w G ga kd kk nn L2 L2 S4 (.slice A2 m2 c2) wx))
        --R3
        case first =>
          have C1 : Hid (∀ k, Calls Try.prog 12 #[.pointer (some ⟨G, 0, none⟩)] (W5.drewN k) fun e w' => e = .returned (.int .i64 (m2 : Int)) ∧ ∃ m, w' = (W5.drewN k).drewN m) := Lib.hid (fun k => by rw [HM2.out]; exact tb_len (P5.on (belowDrewN W5 k)).tb.tb P5.tb.len)
          have C2 : Hid (∀ k, Calls Try.prog 16 #[.slice A2 m2 c2] (W5.drewN k) fun e w' => e = .returned (.int .i64 ((bestI L2 : Nat) : Int)) ∧ ∃ m, w' = (W5.drewN k).drewN m) := Lib.hid (fun k => first_any _ _ _ _ _ _ (R5.on (belowDrewN W5 k)) (by omega))
          have HF := Lib.hid P5
          cases sm
          · have z1 : decide (0 < m2) = false := HSM.out.symm
            have z2 : ¬ 0 < m2 := by simpa using z1
            clear R5 F5 H5 P5 hm2q
        --R4
            go_quiet ((first | (go_at_call 12; refine Calls.quiet_of (C1.out _)) | (go_at_call 16; refine Calls.quiet_of (C2.out _))))
            go_wp2_with fail
            go_meet
            exact ⟨rfl, Lib.hid (HF.out.on (belowDrewN W5 _))⟩
        --R5
          · have z1 : decide (0 < m2) = true := HSM.out.symm
            have hpos : 0 < m2 := by simpa using z1
            obtain ⟨b, off2, rfl, hb, hc⟩ := R5.getD hpos
            have hbi : bestI L2 < m2 := by rw [HM2.out]; exact bestI_lt (by rw [← HM2.out]; exact hpos)
            obtain ⟨c0, c1⟩ := hc _ hbi
            have hfd : L2.getD (bestI L2) zD = ⟨ft, fk⟩ := HFX.out.symm
            rw [hfd] at c0 c1
            have c0 : W5.cell? ⟨b, off2 + bestI L2 * 2, none⟩ = some (.int .i64 ft) := c0
            have c1 : W5.cell? ⟨b, off2 + bestI L2 * 2 + 1, none⟩ = some (.int .u64 (fk : Int)) := c1
            have f0 := F5.cell 0
            have f1 := F5.cell 1
            generalize bestI L2 = bi at *
            have z2 : (bi : Int) < (m2 : Int) := by omega
            clear R5 F5 H5 P5 hc hb hfd HFX
        --R6
            go_quiet ((first | (go_at_call 12; refine Calls.quiet_of (C1.out _)) | (go_at_call 16; refine Calls.quiet_of (C2.out _))))
            go_wp2_with fail
            go_meet
            exact ⟨rfl, Lib.hid (HF.out.on (belowDrewN W5 _))⟩
        case rest =>
          obtain ⟨rfl, HP6⟩ := hcut
          clear H5 R5 F5 P5 HFX HSM
          go_wp2_with fail
          go_loopw [14, 15, 153] (fun x y i wr => ∃ q2 : Nat, q2 ≤ m2 ∧ i = .int .i64 (q2 : Int) ∧ x = .int .i64 (lookK (L2.take q2) kk) ∧ y = .bool (hasK (L2.take q2) kk) ∧ Hid (Pm w G ga kd kk nn L2 L2 S4 (.slice A2 m2 c2) wr)) (fun _ _ i _ => m2 - (intOf i).toNat)
          case atStart => exact ⟨0, by omega, rfl, rfl, rfl, HP6⟩
          case round =>
            obtain ⟨q2, hq2, rfl, rfl, rfl, HP7⟩ := hrel
            by_cases hlt2 : q2 < m2
            · have hql2 : q2 < L2.length := by rw [← HM2.out]; exact hlt2
              have rv := HP7.out.rd
              rw [← HM2.out] at rv
              obtain ⟨A', c', ev, rv⟩ := rv
              injection ev with ev1 ev2 ev3
              subst ev1
              subst ev3
              obtain ⟨b7, off7, rfl, hb7, c0, c1⟩ := rv.at hql2
              have htk : L2.take (q2 + 1) = L2.take q2 ++ [L2[q2]] := List.take_succ_eq_append_getElem hql2
              have hks : Keys (L2.take q2 ++ [L2[q2]]) := by
                rw [← htk]
                have := HP7.out.tb.keys
                unfold Keys at this ⊢
                exact List.Nodup.sublist (List.Sublist.map _ (List.take_sublist _ _)) this
              have HTK := Lib.hid (⟨htk, hks⟩ : _ ∧ _)
              clear ev2 rv hb7 htk hks
              have e1 := HP7.out.ask.cell 1
              generalize L2[q2] = x at *
              clear hql2
              obtain ⟨xt, xk⟩ := x
              simp only at c0 c1
              have z1 : (q2 : Int) < (m2 : Int) := by omega
              have P8 := HP7.out.on (belowA wr (.cells #[.int .i64 xt, .int .u64 (xk : Int)] 35))
              have glt := HP7.out.ask.lt
              have HP8 := Lib.hid P8
              clear P8 HP7
              by_cases hkx : xk = kk
              · subst hkx
                have hno := keys_snoc_no HTK.out.2
                have HE : Hid (lookK (L2.take (q2 + 1)) xk = xt ∧ hasK (L2.take (q2 + 1)) xk = true) := Lib.hid (by
                  rw [HTK.out.1]
                  exact ⟨lookK_snoc_eq hno rfl, by rw [hasK_snoc]; simp⟩)
                clear HTK hno
                generalize lookK (L2.take q2) xk = o1 at *
                generalize hasK (L2.take q2) xk = o2 at *
                go_wp2_with fail
                go_roundw
                case rel => exact ⟨q2 + 1, by omega, by go_num, by rw [HE.out.1], by rw [HE.out.2], HP8⟩
                case measure => simp [intOf]; omega
              · have HE : Hid (lookK (L2.take (q2 + 1)) kk = lookK (L2.take q2) kk ∧ hasK (L2.take (q2 + 1)) kk = hasK (L2.take q2) kk) := Lib.hid (by
                  rw [HTK.out.1]
                  refine ⟨lookK_snoc_ne hkx, ?_⟩
                  rw [hasK_snoc, show (Du.k ⟨xt, xk⟩ == kk) = false by simpa using hkx, Bool.or_false])
                have d1 : ((xk : Int) == (kk : Int)) = false := by rw [beq_eq_false_iff_ne]; omega
                clear HTK
                generalize lookK (L2.take q2) kk = o1 at *
                generalize hasK (L2.take q2) kk = o2 at *
                go_wp2_with fail
                go_roundw
                case rel => exact ⟨q2 + 1, by omega, by go_num, by rw [HE.out.1], by rw [HE.out.2], HP8⟩
                case measure => simp [intOf]; omega
            · have hqm : q2 = m2 := by omega
              have htk : L2.take q2 = L2 := List.take_of_length_le (by rw [hqm, HM2.out]; exact Nat.le_refl _)
              rw [htk, ← HLK.out.1, ← HLK.out.2]
              clear htk hqm
              have z1 : ¬ (q2 : Int) < (m2 : Int) := by omega
              clear hlt2
              cases hk
              all_goals
                go_wp2_with fail
                go_roundw
                case rel => exact ⟨q + 1, (by have := HX.out.2.2.2.2.1; omega), by omega, by go_num, Lib.hid ⟨L2, S4, HP7.out.tb, HP7.out.row, HP7.out.sep, by rw [← HM2.out]; exact hm2q⟩⟩
                case measure => simp [intOf]; omega
    · have HS : Hid (¬ (q < n ∧ q < 120)) := Lib.hid hlt
      clear hlt
      obtain ⟨L, S, hs, hown, hsep, hll⟩ := HP.out
      have HB := Lib.hid hs.below
      clear HP hs hown hsep hll
      by_cases hl1 : q < n
      · have hl2 : ¬ q < 120 := fun h => HS.out ⟨hl1, h⟩
        have g1 : decide ((q : Int) < (n : Int)) = true := by simp; omega
        have g2 : decide ((q : Int) < 120) = false := by simp; omega
        clear HS
        go_wp2_with fail
        go_ret
        exact ⟨rfl, HB.out⟩
      · have g1 : decide ((q : Int) < (n : Int)) = false := by simp; omega
        clear HS
        go_wp2_with fail
        go_ret
        exact ⟨rfl, HB.out⟩
end Go.Proofs.Ytkhhaokelhmikaa
