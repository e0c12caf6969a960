/- PaceCounts' walk. -/
import Derived.Test.YtdjopbhjfnakdaaPqK
import Derived.Test.YtdjopbhjfnakdaaRi
import Derived.Test.YtdjopbhjfnakdaaRbo
namespace Go.Proofs.Ytdjopbhjfnakdaa
open Go.RowKit
set_option linter.unusedVariables false
set_option linter.unusedSimpArgs false
set_option maxRecDepth 20000

/-- What stands while it is put and counted. -/
def CntAt (w0 : World) (G gb q went : Nat) (W : World) : Prop := ∃ l Q cut S, PqAt W G gb 3000 1500 l Q cut S ∧ BkOk 3000 1500 l ∧ QuOk 1500 Q ∧ (∀ b ∈ Q, b.length ≤ 2047) ∧ (∀ k, S k → w0.heap.size ≤ k) ∧ Below w0.heap.size w0 W ∧ went + Q.length + cut = q
theorem cnt_put {went q u cut : Nat} {Q : Row8} {x : List UInt8} (h : went + Q.length + cut = q) : went + (putQ u Q x).length + putC u Q x cut = q + 1 := by
  cases hp : putB u Q x with
  | true => rw [putQ_yes hp, putC_yes hp, List.length_append, List.length_singleton]; omega
  | false => rw [putQ_no hp, putC_no hp]; omega
theorem put_small {u m : Nat} {Q : Row8} {x : List UInt8} (h : ∀ b ∈ Q, b.length ≤ m) (hx : x.length ≤ m) : ∀ b ∈ putQ u Q x, b.length ≤ m := fun b hb => by
  unfold putQ at hb
  split at hb
  · rcases List.mem_append.1 hb with h1 | h1
    · exact h b h1
    · rw [List.mem_singleton] at h1
      rw [h1]
      exact hx
  · exact h b hb
set_option maxHeartbeats 4000000 in
theorem paceCounts_walk (A : Option Addr) (n c : Nat) (A' : Option Addr) (n' c' : Nat) (w : World) (hr : RI w w.heap.size A n c) (hn : n ≤ 281474976710656) (hb : RBo w w.heap.size A' n' c') (hn' : n' ≤ 281474976710656) :
    Calls Try.prog 6 #[.slice A n c, .slice A' n' c'] w (Yes w) := by
  have IC := Lib.hid (fun (k : Int) (h1 : -100000 ≤ k) (h2 : k ≤ 100000) => (by unfold I64; omega : I64 k))
  have HRI := Lib.hid hr
  have HRB := Lib.hid hb
  clear hr hb
  go_enter Try.func6, Try.ntmps6
  go_wp2_with fail
  refine (pq_new 3000 1500 (IC.out _ (by omega) (by omega)) (IC.out _ (by omega) (by omega)) _).mono ?_
  rintro e w1 ⟨G, gb, S, rfl, p0, hS, b0⟩
  rw [show heldN 3000 = 3000 by decide, show heldN 1500 = 1500 by decide] at p0
  have HC := Lib.hid (⟨1500 * 1000000, [], 0, S, p0, ⟨by omega, by omega, Nat.le_refl _⟩, ⟨by simp, by simp⟩, by simp, hS, b0, rfl⟩ : CntAt w G gb 0 0 w1)
  clear p0 hS b0
  go_wp2_with fail
  go_loopw [6, 7, 8] (fun v1 v2 i wr => ∃ q went : Nat, q ≤ n ∧ q ≤ 60 ∧ went ≤ q ∧ v1 = .int .i64 (q : Int) ∧ v2 = .int .i64 (went : Int) ∧ i = .int .i64 (q : Int) ∧ Hid (CntAt w G gb q went wr)) (fun _ _ i _ => 60 - (intOf i).toNat)
  case atStart => exact ⟨0, 0, by omega, by omega, by omega, rfl, rfl, rfl, HC⟩
  case round =>
    obtain ⟨q, went, hqn, hq, hw, rfl, rfl, rfl, HC⟩ := hrel
    by_cases hlt : q < n ∧ q < 60
    · obtain ⟨hl1, hl2⟩ := hlt
      have g1 : decide ((q : Int) < (n : Int)) = true := by simp; omega
      have g2 : decide ((q : Int) < 60) = true := by simp; omega
      have g3 : (q : Int) < (n : Int) := by omega
      obtain ⟨l, Q, cut, S, p0, ok, qu, sm, lo, b0, hsum⟩ := HC.out
      obtain ⟨bA, off, rfl, hbA, hc⟩ := HRI.out.2 (by omega)
      obtain ⟨x, hx, c0⟩ := hc q hl1
      have c1 : wr.cell? ⟨bA, off + q, none⟩ = some (.int .i64 x) := (b0.cell (p := ⟨bA, off + q, none⟩) hbA).trans c0
      obtain ⟨m, hm, lm⟩ := bits_and_le x 2047 (by omega)
      have HM : Hid (bits .and .i64 x 2047 = (m : Int)) := Lib.hid hm
      have hm := HM.out
      have hmk : ∀ W, (Instr.makeSlice 29 (.int .i64 (m : Int)) (.int .i64 (m : Int))).run Try.prog W = .ok (.slice (some ⟨W.heap.size, 0, none⟩) m m) (W.alloc (.cells ((nz m).map bv).toArray 5)) := fun W => run_make8 m (by omega) W
      have bM := belowA wr (.cells ((nz m).map bv).toArray 5)
      have p1 := p0.keep (OnlyS.of (S := fun _ => False) bM) (fun _ _ h => h)
      have hbM : Blk (wr.alloc (.cells ((nz m).map bv).toArray 5)) wr.heap.size 5 ((nz m).map bv).toArray := Blk.new _ _ _
      have b1 := b0.trans (bM.mono b0.size)
      have hp := pq_put p1 ok qu (by omega) (hbM.r8 (nz_len m) (Nat.le_refl _)) (by omega)
      have sm2 := put_small (u := 1500) (x := nz m) sm (by rw [nz_len]; omega)
      have qu2 := putQ_ok (b := nz m) qu
      have sum2 := cnt_put (u := 1500) (x := nz m) hsum
      have HK := Lib.hid (⟨ok, qu2, sm2, sum2, lo, b1⟩ : _ ∧ _ ∧ _ ∧ _ ∧ _ ∧ _)
      have HL12 := Lib.hid (⟨hl1, hl2⟩ : _ ∧ _)
      clear hc hx c0 HC hbA p0 ok qu sm b0 hsum bM p1 hbM b1 sm2 qu2 sum2 hl1 hl2
      generalize putB 1500 Q (nz m) = PB at *
      generalize putQ 1500 Q (nz m) = Q2 at *
      generalize putC 1500 Q (nz m) cut = cut2 at *
      go_wp2_with fail
      ((with_reducible refine hp.mono ?_); rintro e W2 ⟨rfl, S2, p2, hS2, ho2⟩)
      obtain ⟨ok, qu2, sm2, sum2, lo, b1⟩ := HK.out
      have b2 := b1.trans (ho2.below lo b1.size)
      have lo2 : ∀ k, S2 k → w.heap.size ≤ k := fun k hk => by
        rcases hS2 k hk with h1 | h1
        · exact lo k h1
        · exact Nat.le_trans b1.size h1
      have HK2 := Lib.hid (⟨ok, qu2, sm2, sum2, lo2, b2⟩ : _ ∧ _ ∧ _ ∧ _ ∧ _ ∧ _)
      clear hp hS2 ho2 b1 lo c1 hm hmk HK ok qu2 sm2 lo2 sum2
      by_cases hg : q < n'
      · have t1 : decide ((q : Int) < (n' : Int)) = true := by simp; omega
        have t3 : (q : Int) < (n' : Int) := by omega
        obtain ⟨bB, of2, rfl, hbB, hcB⟩ := HRB.out.2 (by omega)
        obtain ⟨tv, d0⟩ := hcB q hg
        have d1 : W2.cell? ⟨bB, of2 + q, none⟩ = some (.bool tv) := (b2.cell (p := ⟨bB, of2 + q, none⟩) hbB).trans d0
        clear hcB d0 hbB
        cases tv
        · obtain ⟨nq, hnq⟩ : ∃ nq, nq = Q2.length := ⟨_, rfl⟩
          have hnq16 : nq ≤ 16 := by rw [hnq]; exact HK2.out.2.1.len
          have hsum : went + nq + cut2 = q + 1 := by rw [hnq]; exact HK2.out.2.2.2.1
          have y1 : IntKind.i64.wrap ((went : Int) + (nq : Int)) = ((went + nq : Nat) : Int) := i64_nn _ (by omega)
          obtain ⟨v1, hv1⟩ : ∃ v1, v1 = went + nq := ⟨_, rfl⟩
          rw [← hv1] at y1 hsum
          have y2 : IntKind.i64.wrap ((v1 : Int) + (cut2 : Int)) = ((v1 + cut2 : Nat) : Int) := i64_nn _ (by omega)
          obtain ⟨v2, hv2⟩ : ∃ v2, v2 = q + 1 := ⟨_, rfl⟩
          rw [hsum, ← hv2] at y2
          have y3 : IntKind.i64.wrap ((q : Int) + 1) = (v2 : Int) := by rw [IntKind.wrap_i64]; omega
          have z1 : decide ((16 : Int) < (nq : Int)) = false := by simp; omega
          have z2 : ¬ 16 < nq := by omega
          have hww : went ≤ q + 1 := by omega
          have HY := Lib.hid (⟨hv2, hnq⟩ : _ ∧ _)
          clear hv1 hv2 hsum hnq16
          have c1 := pq_len p2
          rw [← hnq] at c1
          clear hnq
          go_wp2_with fail
          ((with_reducible refine c1.mono ?_); rintro e V1 hd)
          have d1 := hd.below
          obtain ⟨rfl, _⟩ := hd
          have q1 := (p2).keep (OnlyS.of (S := fun _ => False) d1) (fun _ _ h => h)
          have e1 := (b2).trans (d1.mono (b2).size)
          clear c1 d1
          go_wp2_with fail
          ((with_reducible refine (pq_cut q1).mono ?_); rintro e V2 hd)
          have d2 := hd.below
          obtain ⟨rfl, _⟩ := hd
          have q2 := q1.keep (OnlyS.of (S := fun _ => False) d2) (fun _ _ h => h)
          have e2 := e1.trans (d2.mono e1.size)
          have c3 := pq_len q2
          rw [← HY.out.2] at c3
          clear q1 e1 d2
          go_wp2_with fail
          ((with_reducible refine c3.mono ?_); rintro e V3 hd)
          have d3 := hd.below
          obtain ⟨rfl, _⟩ := hd
          have q3 := q2.keep (OnlyS.of (S := fun _ => False) d3) (fun _ _ h => h)
          have e3 := e2.trans (d3.mono e2.size)
          clear q2 e2 d3 c3
          go_wp2_with fail
          obtain ⟨hl1, hl2⟩ := HL12.out
          go_roundw
          case rel => exact ⟨q + 1, went, by omega, by omega, by omega, by rw [← HY.out.1], rfl, by first | rw [← HY.out.1] | go_num, Lib.hid ⟨_, _, _, _, q3, HK2.out.1, HK2.out.2.1, HK2.out.2.2.1, HK2.out.2.2.2.2.1, e3, HK2.out.2.2.2.1⟩⟩
          case measure => have h9 := HY.out.1; simp [intOf]; omega
        · have ok := HK2.out.1
          have i20 : I64 20000 := IC.out _ (by omega) (by omega)
          have hy3' : IntKind.i64.wrap ((q : Int) + 1) = (q : Int) + 1 := by rw [IntKind.wrap_i64]; omega
          go_wp2_with fail
          ((with_reducible refine (pq_tick p2 ok i20).mono ?_); rintro e W3 ⟨rfl, S3, p3, hS3, ho3⟩)
          have b3 := b2.trans (ho3.below HK2.out.2.2.2.2.1 b2.size)
          have lo3 : ∀ k, S3 k → w.heap.size ≤ k := fun k hk => by
            rcases hS3 k hk with h1 | h1
            · exact HK2.out.2.2.2.2.1 k h1
            · exact Nat.le_trans b2.size h1
          have ok3 := tick_ok ok 20000
          have qu3 := HK2.out.2.1
          have sm3 := HK2.out.2.2.1
          have sum3 := HK2.out.2.2.2.1
          clear hS3 ho3 p2 b2 d1 HK2 ok
          generalize tickN 3000 1500 l 20000 = l3 at *
          go_wp2_with fail
          ((with_reducible refine (pq_go p3 ok3 qu3 (fun b hb => Nat.le_trans (sm3 b hb) (by omega))).mono ?_); rintro e W4 ⟨Ao, no, co, S4, F, rfl, rb, _, p4, hS4, ho4, _⟩)
          have b4 := b3.trans (ho4.below lo3 b3.size)
          have lo4 : ∀ k, S4 k → w.heap.size ≤ k := fun k hk => by
            rcases hS4 k hk with h1 | h1
            · exact lo3 k h1
            · exact Nat.le_trans b3.size h1
          have hno : no = (goO l3 Q2).length := rb.1.symm
          have hsum4 : went + no + (goR l3 Q2).length + cut2 = q + 1 := by have := goO_len l3 Q2; omega
          have HK4 := Lib.hid (⟨(⟨ok3.rate, ok3.burst, Nat.le_trans (goL_le l3 Q2) ok3.level⟩ : BkOk 3000 1500 (goL l3 Q2)), goR_ok (l := l3) qu3, (fun b hb => sm3 b (goR_mem hb) : ∀ b ∈ goR l3 Q2, b.length ≤ 2047), hsum4, lo4, b4⟩ : _ ∧ _ ∧ _ ∧ _ ∧ _ ∧ _)
          have yw : IntKind.i64.wrap ((went : Int) + (no : Int)) = ((went + no : Nat) : Int) := i64_nn _ (by omega)
          clear rb hno hsum4 lo4 p3 b3 lo3 ok3 qu3 sm3 sum3 hS4 ho4
          obtain ⟨went4, hw4⟩ : ∃ w4, w4 = went + no := ⟨_, rfl⟩
          rw [← hw4] at yw HK4
          clear hw4
          generalize goL l3 Q2 = l4 at *
          generalize goR l3 Q2 = Q4 at *
          obtain ⟨nq, hnq⟩ : ∃ nq, nq = Q4.length := ⟨_, rfl⟩
          have hnq16 : nq ≤ 16 := by rw [hnq]; exact HK4.out.2.1.len
          have hsum : went4 + nq + cut2 = q + 1 := by rw [hnq]; exact HK4.out.2.2.2.1
          have y1 : IntKind.i64.wrap ((went4 : Int) + (nq : Int)) = ((went4 + nq : Nat) : Int) := i64_nn _ (by omega)
          obtain ⟨v1, hv1⟩ : ∃ v1, v1 = went4 + nq := ⟨_, rfl⟩
          rw [← hv1] at y1 hsum
          have y2 : IntKind.i64.wrap ((v1 : Int) + (cut2 : Int)) = ((v1 + cut2 : Nat) : Int) := i64_nn _ (by omega)
          obtain ⟨v2, hv2⟩ : ∃ v2, v2 = q + 1 := ⟨_, rfl⟩
          rw [hsum, ← hv2] at y2
          have y3 : IntKind.i64.wrap ((q : Int) + 1) = (v2 : Int) := by rw [IntKind.wrap_i64]; omega
          have z1 : decide ((16 : Int) < (nq : Int)) = false := by simp; omega
          have z2 : ¬ 16 < nq := by omega
          have hww : went4 ≤ q + 1 := by omega
          have HY := Lib.hid (⟨hv2, hnq⟩ : _ ∧ _)
          clear hv1 hv2 hsum hnq16
          have c1 := pq_len p4
          rw [← hnq] at c1
          clear hnq
          go_wp2_with fail
          ((with_reducible refine c1.mono ?_); rintro e V1 hd)
          have d1 := hd.below
          obtain ⟨rfl, _⟩ := hd
          have q1 := (p4).keep (OnlyS.of (S := fun _ => False) d1) (fun _ _ h => h)
          have e1 := (b4).trans (d1.mono (b4).size)
          clear c1 d1
          go_wp2_with fail
          ((with_reducible refine (pq_cut q1).mono ?_); rintro e V2 hd)
          have d2 := hd.below
          obtain ⟨rfl, _⟩ := hd
          have q2 := q1.keep (OnlyS.of (S := fun _ => False) d2) (fun _ _ h => h)
          have e2 := e1.trans (d2.mono e1.size)
          have c3 := pq_len q2
          rw [← HY.out.2] at c3
          clear q1 e1 d2
          go_wp2_with fail
          ((with_reducible refine c3.mono ?_); rintro e V3 hd)
          have d3 := hd.below
          obtain ⟨rfl, _⟩ := hd
          have q3 := q2.keep (OnlyS.of (S := fun _ => False) d3) (fun _ _ h => h)
          have e3 := e2.trans (d3.mono e2.size)
          clear q2 e2 d3 c3
          go_wp2_with fail
          obtain ⟨hl1, hl2⟩ := HL12.out
          go_roundw
          case rel => exact ⟨q + 1, went4, by omega, by omega, by omega, by rw [← HY.out.1], rfl, by first | rw [← HY.out.1] | go_num, Lib.hid ⟨_, _, _, _, q3, HK4.out.1, HK4.out.2.1, HK4.out.2.2.1, HK4.out.2.2.2.2.1, e3, HK4.out.2.2.2.1⟩⟩
          case measure => have h9 := HY.out.1; simp [intOf]; omega
      · have t1 : decide ((q : Int) < (n' : Int)) = false := by simp; omega
        obtain ⟨nq, hnq⟩ : ∃ nq, nq = Q2.length := ⟨_, rfl⟩
        have hnq16 : nq ≤ 16 := by rw [hnq]; exact HK2.out.2.1.len
        have hsum : went + nq + cut2 = q + 1 := by rw [hnq]; exact HK2.out.2.2.2.1
        have y1 : IntKind.i64.wrap ((went : Int) + (nq : Int)) = ((went + nq : Nat) : Int) := i64_nn _ (by omega)
        obtain ⟨v1, hv1⟩ : ∃ v1, v1 = went + nq := ⟨_, rfl⟩
        rw [← hv1] at y1 hsum
        have y2 : IntKind.i64.wrap ((v1 : Int) + (cut2 : Int)) = ((v1 + cut2 : Nat) : Int) := i64_nn _ (by omega)
        obtain ⟨v2, hv2⟩ : ∃ v2, v2 = q + 1 := ⟨_, rfl⟩
        rw [hsum, ← hv2] at y2
        have y3 : IntKind.i64.wrap ((q : Int) + 1) = (v2 : Int) := by rw [IntKind.wrap_i64]; omega
        have z1 : decide ((16 : Int) < (nq : Int)) = false := by simp; omega
        have z2 : ¬ 16 < nq := by omega
        have hww : went ≤ q + 1 := by omega
        have HY := Lib.hid (⟨hv2, hnq⟩ : _ ∧ _)
        clear hv1 hv2 hsum hnq16
        have c1 := pq_len p2
        rw [← hnq] at c1
        clear hnq
        go_wp2_with fail
        ((with_reducible refine c1.mono ?_); rintro e V1 hd)
        have d1 := hd.below
        obtain ⟨rfl, _⟩ := hd
        have q1 := (p2).keep (OnlyS.of (S := fun _ => False) d1) (fun _ _ h => h)
        have e1 := (b2).trans (d1.mono (b2).size)
        clear c1 d1
        go_wp2_with fail
        ((with_reducible refine (pq_cut q1).mono ?_); rintro e V2 hd)
        have d2 := hd.below
        obtain ⟨rfl, _⟩ := hd
        have q2 := q1.keep (OnlyS.of (S := fun _ => False) d2) (fun _ _ h => h)
        have e2 := e1.trans (d2.mono e1.size)
        have c3 := pq_len q2
        rw [← HY.out.2] at c3
        clear q1 e1 d2
        go_wp2_with fail
        ((with_reducible refine c3.mono ?_); rintro e V3 hd)
        have d3 := hd.below
        obtain ⟨rfl, _⟩ := hd
        have q3 := q2.keep (OnlyS.of (S := fun _ => False) d3) (fun _ _ h => h)
        have e3 := e2.trans (d3.mono e2.size)
        clear q2 e2 d3 c3
        go_wp2_with fail
        obtain ⟨hl1, hl2⟩ := HL12.out
        go_roundw
        case rel => exact ⟨q + 1, went, by omega, by omega, by omega, by rw [← HY.out.1], rfl, by first | rw [← HY.out.1] | go_num, Lib.hid ⟨_, _, _, _, q3, HK2.out.1, HK2.out.2.1, HK2.out.2.2.1, HK2.out.2.2.2.2.1, e3, HK2.out.2.2.2.1⟩⟩
        case measure => have h9 := HY.out.1; simp [intOf]; omega
    · have HS : Hid (¬ (q < n ∧ q < 60)) := Lib.hid hlt
      clear hlt
      obtain ⟨l, Q, cut, S, p0, ok, qu, sm, lo, b0, hsum⟩ := HC.out
      clear HC p0 ok qu sm lo hsum
      by_cases hl1 : q < n
      · have hl2 : ¬ q < 60 := fun h => HS.out ⟨hl1, h⟩
        have g1 : decide ((q : Int) < (n : Int)) = true := by simp; omega
        have g2 : decide ((q : Int) < 60) = false := by simp; omega
        clear HS
        go_wp2_with fail
        ((with_reducible refine (known11_any _).mono ?_); rintro e WZ ⟨rfl, d⟩)
        have bz := b0.trans (d.mono b0.size)
        clear d b0
        go_wp2_with fail
        go_ret
        exact ⟨rfl, bz⟩
      · have g1 : decide ((q : Int) < (n : Int)) = false := by simp; omega
        clear HS
        go_wp2_with fail
        ((with_reducible refine (known11_any _).mono ?_); rintro e WZ ⟨rfl, d⟩)
        have bz := b0.trans (d.mono b0.size)
        clear d b0
        go_wp2_with fail
        go_ret
        exact ⟨rfl, bz⟩
end Go.Proofs.Ytdjopbhjfnakdaa
