/- AlarmOrder's walk. -/
import Derived.Test.YtkhhaokelhmikaaAlO
namespace Go.Proofs.Ytkhhaokelhmikaa
open Go.RowKit
set_option linter.unusedVariables false
set_option linter.unusedSimpArgs false
set_option maxRecDepth 20000

set_option maxHeartbeats 4000000 in
theorem alarmOrder_walk (A : Option Addr) (n c : Nat) (now : Int) (w : World) (hr : RI w w.heap.size A n c) (hn : n ≤ 281474976710656) (hnow : I64 now) :
    Calls Try.prog 5 #[.slice A n c, .int .i64 now] w (Yes w) := by
  obtain ⟨F, hF⟩ := hr.rf
  have HF := Lib.hid hF
  have HN := Lib.hid hnow
  clear hr hF hnow
  go_enter Try.func5, Try.ntmps5
  go_wp2_with fail
  refine (tb_new _).mono ?_
  rintro e w1 ⟨G, S, rfl, p0, hS, b0⟩
  have HP : Hid (TbS w G (setsF F 0) S w1) := Lib.hid ⟨p0, keys_nil, (fun x hx => by cases hx), (by simp [setsF]), hS, b0⟩
  clear p0 hS b0
  go_upto_block 0 with (fail)
  go_cut [6, 7] from 13 to 39 (fun v _ wx => Hid (∃ q : Nat, q = min n 60 ∧ v = .int .i64 ((cntF F now q : Nat) : Int) ∧ ∃ S, TbS w G (setsF F q) S wx))
  case first =>
    go_wp2_with fail
    go_loopw [6, 7] (fun v i wr => ∃ q : Nat, q ≤ n ∧ q ≤ 60 ∧ i = .int .i64 (q : Int) ∧ v = .int .i64 ((cntF F now q : Nat) : Int) ∧ Hid (∃ S, TbS w G (setsF F q) S wr)) (fun _ i _ => 60 - (intOf i).toNat)
    case atStart => exact ⟨0, by omega, by omega, rfl, rfl, Lib.hid ⟨S, HP.out⟩⟩
    case round =>
      obtain ⟨q, hqn, hq, rfl, rfl, HQ⟩ := hrel
      clear HP
      by_cases hlt : q < n ∧ q < 60
      · obtain ⟨hl1, hl2⟩ := hlt
        have g1 : decide ((q : Int) < (n : Int)) = true := by simp; omega
        have g2 : decide ((q : Int) < 60) = true := by simp; omega
        have g3 : (q : Int) < (n : Int) := by omega
        obtain ⟨S, hs⟩ := HQ.out
        obtain ⟨bA, off, rfl, hbA, hc⟩ := (HF.out.below hs.below).2.2 (by omega)
        have x0 := hc q hl1
        have hx64 := HF.out.2.1 q hl1
        have hsu : setK (setsF F q) q (F q) = setsF F (q + 1) := setsF_succ F q
        have hsk : ∀ e W', TbOut G (setK (setsF F q) q (F q)) S (.tuple #[]) wr e W' → e = .returned (.tuple #[]) ∧ ∃ S', TbS w G (setsF F (q + 1)) S' W' := fun e W' ho => by
          obtain ⟨h1, S', h2, _⟩ := hs.out ho (setK_keys hs.keys q (F q)) (setK_in hs.ins (by omega) hx64) (Nat.le_trans (setK_len _ q (F q)) (by rw [setsF_len]; omega))
          rw [hsu] at h2
          exact ⟨h1, S', h2⟩
        have HSK := Lib.hid hsk
        have HS := Lib.hid hs
        have hcs := cntF_succ F now q
        have hcl := cntF_le F now q
        have HC := Lib.hid hcs
        have HX := Lib.hid hx64
        clear hsu hsk hs hcs hc hbA HQ hx64
        generalize cntF F now q = cn at *
        obtain ⟨x, hx⟩ : ∃ x, x = F q := ⟨_, rfl⟩
        rw [← hx] at x0 HC HX HSK
        have HFX := Lib.hid hx
        clear hx
        go_wp2_with fail
        ((with_reducible refine (tb_set_at (k := q) HS.out.tb HS.out.keys HS.out.ins HS.out.len (by first | rfl | (rw [IntKind.wrap_u64]; omega)) (by omega) HX.out).mono ?_); rintro e W2 ho)
        obtain ⟨rfl, S2, h2⟩ := HSK.out _ _ ho
        have x0 : W2.cell? ⟨bA, off + q, none⟩ = some (.int .i64 x) := by
          obtain ⟨b', o', eA, _, hc2⟩ := (HF.out.below h2.below).2.2 (by omega)
          injection eA with eA
          injection eA with e1 e2
          subst e1
          subst e2
          rw [HFX.out]
          exact hc2 q hl1
        clear ho HSK HS
        have HQ : Hid (∃ S, TbS w G (setsF F (q + 1)) S W2) := Lib.hid ⟨S2, h2⟩
        clear h2
        by_cases hle : x ≤ now
        · have d1 : decide (x ≤ now) = true := decide_eq_true hle
          have HC2 : Hid (cntF F now (q + 1) = cn + 1) := Lib.hid (by rw [HC.out, if_pos hle])
          clear HC
          go_wp2_with fail
          go_roundw
          case rel => exact ⟨q + 1, by omega, by omega, by go_num, by rw [HC2.out]; first | rfl | go_num, HQ⟩
          case measure => simp [intOf]; omega
        · have d1 : decide (x ≤ now) = false := decide_eq_false hle
          have HC2 : Hid (cntF F now (q + 1) = cn) := Lib.hid (by rw [HC.out, if_neg hle]; rfl)
          clear HC
          go_wp2_with fail
          go_roundw
          case rel => exact ⟨q + 1, by omega, by omega, by go_num, by rw [HC2.out], HQ⟩
          case measure => simp [intOf]; omega
      · have HM : Hid (q = min n 60) := Lib.hid (by omega)
        by_cases hl1 : q < n
        · have g1 : decide ((q : Int) < (n : Int)) = true := by simp; omega
          have g2 : decide ((q : Int) < 60) = false := by simp; omega
          clear hlt
          go_wp2_with fail
          go_meet
          exact Lib.hid ⟨q, HM.out, rfl, HQ.out⟩
        · have g1 : decide ((q : Int) < (n : Int)) = false := by simp; omega
          clear hlt
          go_wp2_with fail
          go_meet
          exact Lib.hid ⟨q, HM.out, rfl, HQ.out⟩
  case rest =>
    clear HP
    obtain ⟨m, hm, rfl, S2, hs⟩ := hcut.out
    have hm60 : m ≤ 60 := by omega
    have hmn : m ≤ n := by omega
    have HM := Lib.hid hm
    have HS := Lib.hid hs
    clear hm hs hcut
    go_wp2_with fail
    ((with_reducible refine (tb_due HS.out.tb HS.out.keys HS.out.ins HS.out.len HN.out).mono ?_); rintro e W2 ⟨Ao, no, co, R, S3, rfl, hR, rd, hA, t3, hS3, ho3⟩)
    have h3 := HS.out.turn t3 hS3 ho3 (lateK_keys HS.out.keys now) (lateK_in HS.out.ins now) (Nat.le_trans (lateK_len _ now) HS.out.len)
    have hlen := hR.len HS.out.keys
    have hcnt := late_cnt F now m
    rw [setsF_len] at hlen
    have hno : no = cntF F now m := by have := rd.1; omega
    have hll : (lateK (setsF F m) now).length = m - cntF F now m := by omega
    have hcl := cntF_le F now m
    have H3 := Lib.hid h3
    have HR := Lib.hid hR
    have HRD := Lib.hid rd
    have HLL := Lib.hid hll
    clear h3 hR rd hA t3 hS3 ho3 hlen hcnt hll HS
    generalize cntF F now m = cn at *
    subst hno
    go_wp2_with fail
    go_loopw [9, 44] (fun _ i wr => ∃ j : Nat, j ≤ no ∧ i = .int .i64 (j : Int) ∧ Hid (Below W2.heap.size W2 wr)) (fun _ i _ => no - (intOf i).toNat)
    case atStart => exact ⟨0, by omega, rfl, Lib.hid (Below.refl _ _)⟩
    case round =>
      obtain ⟨j, hj, rfl, HB⟩ := hrel
      by_cases hlt : j < no
      · have hrl : j < R.length := by rw [HRD.out.1]; exact hlt
        have hxm := (HR.out.mem R[j]).1 (List.getElem_mem hrl)
        have hxs := setsF_mem.1 hxm.1
        obtain ⟨bR, offR, rfl, hbR, x0, x1⟩ := (HRD.out.below HB.out).at hrl
        have bw := H3.out.below.trans (HB.out.mono H3.out.below.size)
        obtain ⟨bA, off, rfl, hbA, hc⟩ := (HF.out.below bw).2.2 (by omega)
        have a0 := hc R[j].k (by omega)
        rw [← hxs.2] at a0
        have hpre : ∀ i (h : j = i + 1), ltB (R[i]'(by omega)) R[j] = true := fun i h => by subst h; exact HR.out.next hrl
        have hprc : ∀ i (h : j = i + 1), wr.cell? ⟨bR, offR + i * 2, none⟩ = some (.int .i64 (R[i]'(by omega)).t) ∧ wr.cell? ⟨bR, offR + i * 2 + 1, none⟩ = some (.int .u64 ((R[i]'(by omega)).k : Int)) := fun i h => by
          obtain ⟨b', o', e', _, c0, c1⟩ := (HRD.out.below HB.out).at (q := i) (by omega)
          injection e' with e'
          injection e' with e1 e2
          subst e1
          subst e2
          exact ⟨c0, c1⟩
        have hkm := hxs.1
        have htn := hxm.2
        have hk64 : R[j].k < 18446744073709551616 := by omega
        clear hxm hxs hbR hbA hc bw
        generalize hx : R[j] = x at *
        obtain ⟨xt, xk⟩ := x
        simp only at x0 x1 a0 hkm htn hk64
        have z1 : decide (now < xt) = false := by simp; omega
        have z2 : ¬ now < xt := by omega
        have z3 : decide ((n : Int) ≤ (xk : Int)) = false := by simp; omega
        have z4 : ¬ n ≤ xk := by omega
        have z5 : (xk : Int) < (n : Int) := by omega
        have z6 : (j : Int) < (no : Int) := by omega
        have hqn : j ≤ 60 := by omega
        rcases Nat.eq_zero_or_pos j with h0 | h0
        · subst h0
          have x0 : wr.cell? ⟨bR, offR, none⟩ = some (.int .i64 xt) := by rw [Nat.zero_mul, Nat.add_zero] at x0; exact x0
          have x1 : wr.cell? ⟨bR, offR + 1, none⟩ = some (.int .u64 (xk : Int)) := by rw [Nat.zero_mul, Nat.add_zero] at x1; exact x1
          clear hpre hprc hx hrl
          go_upto_region 15 with (fail)
          simp only [List.append_eq, List.cons_append, List.nil_append]
          go_quiet (fail)
          go_wp2_with fail
          go_roundw
          case rel => exact ⟨1, by omega, rfl, Lib.hid (HB.out.trans ((belowDrewN wr _).mono HB.out.size))⟩
          case measure => simp [intOf]; omega
        · obtain ⟨i, rfl⟩ : ∃ i, j = i + 1 := ⟨j - 1, by omega⟩
          have hlt2 := hpre i rfl
          obtain ⟨y0, y1⟩ := hprc i rfl
          have hil : i < R.length := by omega
          generalize hy : R[i] = y at *
          obtain ⟨yt, yk⟩ := y
          simp only at y0 y1
          rw [ltB_iff] at hlt2
          simp only at hlt2
          have z7 : decide (xt < yt) = false := by simp; omega
          have z8 : ¬ xt < yt := by omega
          have hw1 : IntKind.i64.wrap ((i : Int) + 1 - 1) = (i : Int) := by rw [show (i : Int) + 1 - 1 = (i : Int) by omega, IntKind.wrap_i64]; omega
          have z9 : (i : Int) < (no : Int) := by omega
          have z10 : (i : Int) + 1 < (no : Int) := by omega
          clear hpre hprc hx hy hrl hil h0
          by_cases he : xt = yt
          · subst he
            have w1 : decide (xk ≤ yk) = false := by simp; omega
            have w2 : decide ((xk : Int) ≤ (yk : Int)) = false := by simp; omega
            have w3 : ¬ xk ≤ yk := by omega
            clear hlt2
            go_upto_region 15 with (fail)
            simp only [List.append_eq, List.cons_append, List.nil_append]
            go_quiet (fail)
            go_wp2_with fail
            go_roundw
            case rel => exact ⟨i + 1 + 1, by omega, by go_num, Lib.hid (HB.out.trans ((belowDrewN wr _).mono HB.out.size))⟩
            case measure => simp [intOf]; omega
          · have w1 : (xt == yt) = false := by rw [beq_eq_false_iff_ne]; exact he
            clear hlt2
            go_upto_region 15 with (fail)
            simp only [List.append_eq, List.cons_append, List.nil_append]
            go_quiet (fail)
            go_wp2_with fail
            go_roundw
            case rel => exact ⟨i + 1 + 1, by omega, by go_num, Lib.hid (HB.out.trans ((belowDrewN wr _).mono HB.out.size))⟩
            case measure => simp [intOf]; omega
      · have hjn : j = no := by omega
        subst hjn
        have z6 : ¬ (j : Int) < (j : Int) := by omega
        have h4 := H3.out.on HB.out
        have bw := h4.below
        have H4 := Lib.hid h4
        clear h4 HR HRD H3 HB hlt
        go_wp2_with fail
        ((with_reducible refine (tb_due H4.out.tb H4.out.keys H4.out.ins H4.out.len HN.out).mono ?_); rintro e W5 ⟨A5, n5, c5, R5, S5, rfl, hR5, rd5, _, t5, hS5, ho5⟩)
        have h5 := H4.out.turn t5 hS5 ho5 (lateK_keys H4.out.keys now) (lateK_in H4.out.ins now) (Nat.le_trans (lateK_len _ now) H4.out.len)
        have hn5 : n5 = 0 := by rw [← rd5.1, due_late hR5]; rfl
        subst hn5
        rw [late_late] at h5
        obtain ⟨v, hv⟩ : ∃ v, v = m - j := ⟨_, rfl⟩
        have cl : Calls Try.prog 12 #[.pointer (some ⟨G, 0, none⟩)] W5 (Dn (.int .i64 (v : Int)) W5) := by
          rw [hv, ← HLL.out]
          exact tb_len h5.tb h5.len
        have HB5 := Lib.hid h5.below
        have hvm : v + j = m := by omega
        have hM := HM.out
        clear hR5 rd5 t5 hS5 ho5 h5 H4 HLL bw hv
        by_cases hn60 : n ≤ 60
        · have hmn' : m = n := by omega
          subst hmn'
          have q1 : (m : Int) ≤ 60 := by omega
          have q2 : ¬ (60 : Int) < (m : Int) := by omega
          have q3 : (m : Int) - (j : Int) = (v : Int) := by omega
          have q4 : min (m : Int) 60 = (m : Int) := by omega
          clear hM HM hvm
          go_wp2_with fail
          ((with_reducible refine cl.mono ?_); rintro e W6 hd)
          have b6 := HB5.out.trans (hd.below.mono HB5.out.size)
          obtain ⟨rfl, _⟩ := hd
          clear cl HB5
          go_wp2_with fail
          ((with_reducible refine (known12_any _).mono ?_); rintro e W7 ⟨rfl, d7⟩)
          have b7 := b6.trans (d7.mono b6.size)
          clear b6 d7
          go_wp2_with fail
          go_ret
          exact ⟨rfl, b7⟩
        · have hmn' : m = 60 := by omega
          subst hmn'
          have q1 : ¬ (n : Int) ≤ 60 := by omega
          have q2 : (60 : Int) < (n : Int) := by omega
          have q3 : (60 : Int) - (j : Int) = (v : Int) := by omega
          clear hM HM hvm
          go_wp2_with fail
          ((with_reducible refine cl.mono ?_); rintro e W6 hd)
          have b6 := HB5.out.trans (hd.below.mono HB5.out.size)
          obtain ⟨rfl, _⟩ := hd
          clear cl HB5
          go_wp2_with fail
          ((with_reducible refine (known12_any _).mono ?_); rintro e W7 ⟨rfl, d7⟩)
          have b7 := b6.trans (d7.mono b6.size)
          clear b6 d7 q1 q2 q3
          go_wp2_with fail
          go_ret
          exact ⟨rfl, b7⟩
end Go.Proofs.Ytkhhaokelhmikaa
