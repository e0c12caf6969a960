/- Law 11's helper: play, of any asks. -/
import Derived.Test.YtdjopbhjfnakdaaPqP
import Derived.Test.YtdjopbhjfnakdaaAk11
import Derived.Deep.Cut
import Derived.Deep.CutBlock
namespace Go.Proofs.Ytdjopbhjfnakdaa
open Go.RowKit
set_option linter.unusedVariables false
set_option linter.unusedSimpArgs false
set_option maxRecDepth 20000

/-- What stands between the asks. -/
def PlS (w0 : World) (G gb G' g' u q : Nat) (W : World) : Prop := ∃ r l Q cut A c S, Ply w0 G gb G' g' u r l Q cut S r l Q cut A c W ∧ BkOk r u l ∧ QuOk u Q ∧ (∀ b ∈ Q, b.length ≤ 1023) ∧ cut ≤ q
theorem quiet_keep {S : Nat → Prop} {ga : Nat} {w : World} (h : ∀ k, S k → k ≠ ga) (hga : ga < w.heap.size) {S' : Nat → Prop} (hS : ∀ k, S' k → S k ∨ w.heap.size ≤ k) : ∀ k, S' k → k ≠ ga := fun k hk e => by
  rcases hS k hk with h1 | h1
  · exact h k h1 e
  · omega
set_option maxHeartbeats 8000000 in
theorem play_any (a b : Int) (A0 : Option Addr) (n c0 : Nat) (L : List Ask) (w : World) (ha : I64 a) (hb : I64 b) (h : RA w w.heap.size A0 n c0 L) (hn : n ≤ 8796093022208) :
    Calls Try.prog 7 #[.int .i64 a, .int .i64 b, .slice A0 n c0] w (Yes w) := by
  have hlen := Lib.hid h.1
  have hin := Lib.hid h.2.1
  have HRA := Lib.hid h
  clear h
  go_enter Try.func7, Try.ntmps7
  go_wp2_with fail
  refine (pq_new a b ha hb _).mono ?_
  rintro e w1 ⟨G, gb, S, rfl, p0, hS, b0⟩
  go_wp2_with fail
  refine (ref_newq a b ha hb _).mono ?_
  rintro e w2 ⟨G', g', rfl, q0, hG', hg', b1⟩
  have HP : Hid (PlS w G gb G' g' (heldN b) 0 w2) := Lib.hid ⟨_, _, _, _, _, _, S, ⟨p0.keep (OnlyS.of (S := fun _ => False) b1) (fun _ _ h => h), q0, hS, fun k hk => by have := p0.lt hk; exact ⟨by omega, by omega, fun ad hA => by cases hA⟩, b0.trans (b1.mono b0.size)⟩, new_ok a b, ⟨by simp, by simp⟩, by simp, Nat.le_refl _⟩
  have HG := Lib.hid (⟨Nat.le_trans b0.size hG', Nat.le_trans b0.size hg'⟩ : w.heap.size ≤ G' ∧ w.heap.size ≤ g')
  clear p0 hS b0 q0 hG' hg' b1 ha hb
  generalize heldN b = u at HP
  go_wp2_with fail
  go_loopw [9, 10, 11, 12, 46, 47, 48, 66, 74, 87] (fun i _ _ _ _ _ _ _ _ _ wr => ∃ q : Nat, q ≤ n ∧ q ≤ 100 ∧ i = .int .i64 (q : Int) ∧ Hid (PlS w G gb G' g' u q wr)) (fun i _ _ _ _ _ _ _ _ _ _ => 100 - (intOf i).toNat)
  case atStart => exact ⟨0, by omega, by omega, rfl, HP⟩
  case round =>
    obtain ⟨q, hqn, hq, rfl, HP⟩ := hrel
    by_cases hlt : q < n ∧ q < 100
    · obtain ⟨hl1, hl2⟩ := hlt
      have g1 : decide ((q : Int) < (n : Int)) = true := by simp; omega
      have g2 : decide ((q : Int) < 100) = true := by simp; omega
      have g3 : (q : Int) < (n : Int) := by omega
      obtain ⟨r, l, Q, cut, A, c, S, hy, ok, qu, sm, hc⟩ := HP.out
      have hql : q < L.length := by have := hlen.out; omega
      obtain ⟨bA, off, rfl, hbA, x0, x1⟩ := (HRA.out.below hy.below).at (q := q) hql
      obtain ⟨hk64, hn64⟩ := hin.out L[q] (List.getElem_mem hql)
      generalize L[q].kind = kd at x0 hk64
      generalize L[q].n = nn at x1 hn64
      have hy0 := hy.on (belowA wr (.cells #[.int .i64 kd, .int .i64 nn] 24))
      have HA0 : Blk (wr.alloc (.cells #[.int .i64 kd, .int .i64 nn] 24)) wr.heap.size 24 #[.int .i64 kd, .int .i64 nn] := Blk.new _ _ _
      have nA0 : ∀ k, S k → k ≠ wr.heap.size := fun k hk e => by have := hy.pq.lt hk; omega
      have H0 := Lib.hid (⟨hy0, HA0, nA0, hy.rq.blk.lt, BkAt.lt hy.rq.bkt, hy.below.size⟩ : _ ∧ _ ∧ _ ∧ _ ∧ _ ∧ _)
      clear hy hy0 HA0 nA0 HP hbA hql
      go_upto_if 34 with (fail)
      generalize wr.alloc (.cells #[.int .i64 kd, .int .i64 nn] 24) = W at H0 ⊢
      generalize wr.heap.size = ga at H0 ⊢
      obtain ⟨hy, HA, nA, hx1, hx2, hx3⟩ := H0.out
      have HX := Lib.hid (⟨by omega, by omega, hx3⟩ : ga ≠ G' ∧ ga ≠ g' ∧ w.heap.size ≤ ga)
      clear H0 hx1 hx2 hx3 x0 x1 g1 g2 g3
      ((with_reducible refine (pq_bucket hy.pq).mono ?_); rintro e W0 hd0)
      have d0 := hd0.below
      obtain ⟨rfl, _⟩ := hd0
      have hy := hy.on d0
      have HA : Blk W0 ga 24 #[.int .i64 kd, .int .i64 nn] := (d0.block ga HA.lt).trans HA
      clear d0
      have e0 := HA.cell 0
      have e1 := HA.cell 1
      by_cases k3 : kd = 3
      · subst k3
        have hfit : ∀ b ∈ Q, b.length ≤ 100000 := fun b hb => Nat.le_trans (sm b hb) (by omega)
        go_wp2_with fail
        ((with_reducible refine (pq_go hy.pq ok qu hfit).mono ?_); rintro e W2 ⟨Ao, no, co, S2, F, rfl, rb, hF, hp2, hS2, ho2, _⟩)
        have h2 := hy.turn hp2 hS2 ho2
        have hF2 : ∀ k, F k → ¬ (k = G' ∨ k = g') := fun k hk hT => by
          rcases hF k hk with h1 | h1
          · rcases hT with hT | hT
            · exact (hy.sep k h1).1 hT
            · exact (hy.sep k h1).2.1 hT
          · have := hy.rq.blk.lt
            have := BkAt.lt hy.rq.bkt
            omega
        clear hy hp2 hS2 ho2 hF HA e0 e1
        go_wp2_with fail
        ((with_reducible refine (ref_qgo G' g' r u l Q cut A c W2 h2.rq ok qu.len hfit).mono ?_); rintro e W4 ⟨Ar, nr, cr, rfl, rs, _, A3, c3, hq3, ho3, hA3⟩)
        have rb4 := rb.keep ho3 hF2
        have h4 := h2.ref hq3 ho3 HG.out.1 HG.out.2 (fun ad hA hQ => by
          rcases hA3 ad hA with h1 | h1
          · exact .inl ⟨h1, Nat.lt_of_lt_of_le hQ (goR_len l Q)⟩
          · exact .inr h1)
        have hno : no ≤ 16 := by have h1 := rb.1; have h3 := goO_len l Q; have := qu.len; omega
        clear h2 rb hF2 hq3 ho3 hA3 hfit
        go_wp2_with fail
        ((with_reducible refine (rows_yes W4 Ao no co _ F rb4 Ar nr cr rs (by omega)).mono ?_); rintro e W3 ⟨rfl, d3⟩)
        have h3 := h4.on d3
        clear h4 rb4 rs d3
        have ok3 : BkOk r u (goL l Q) := ⟨ok.rate, ok.burst, Nat.le_trans (goL_le l Q) ok.level⟩
        have qu3 := goR_ok (l := l) qu
        have sm3 : ∀ b ∈ goR l Q, b.length ≤ 1023 := fun b hb => sm b (goR_mem hb)
        have hc3 : cut ≤ q + 1 := Nat.le_succ_of_le hc
        clear ok qu sm hc hno
        obtain ⟨⟨k0, k1, k2⟩, _, _⟩ := h3.rq.cells
        have kb : W3.cell? ⟨g', 2, none⟩ = some (.int .i64 ((goL l Q) : Int)) := Blk.cell h3.rq.bkt 2
        obtain ⟨nq, hnq⟩ : ∃ nq, nq = (goR l Q).length := ⟨_, rfl⟩
        rw [← hnq] at k1
        have hl3 := ok3.level
        have hu3 := ok3.burst
        have C1 : Hid (∀ k, Calls Try.prog 15 #[.pointer (some ⟨G, 0, none⟩)] (W3.drewN k) fun e w' => e = .returned (.int .i64 (nq : Int)) ∧ ∃ m, w' = (W3.drewN k).drewN m) := Lib.hid (fun k => by rw [hnq]; exact pq_len (h3.on (belowDrewN W3 k)).pq)
        have C2 : Hid (∀ k, Calls Try.prog 10 #[.pointer (some ⟨G, 0, none⟩)] (W3.drewN k) fun e w' => e = .returned (.int .i64 (cut : Int)) ∧ ∃ m, w' = (W3.drewN k).drewN m) := Lib.hid (fun k => pq_cut (h3.on (belowDrewN W3 k)).pq)
        have C3 : Hid (∀ k, Calls Try.prog 17 #[.pointer (some ⟨G, 0, none⟩)] (W3.drewN k) fun e w' => e = .returned (.pointer (some ⟨gb, 0, none⟩)) ∧ ∃ m, w' = (W3.drewN k).drewN m) := Lib.hid (fun k => pq_bucket (h3.on (belowDrewN W3 k)).pq)
        have C4 : Hid (∀ k, Calls Try.prog 24 #[.pointer (some ⟨gb, 0, none⟩)] (W3.drewN k) fun e w' => e = .returned (.int .i64 (((goL l Q) / 1000000 : Nat) : Int)) ∧ ∃ m, w' = (W3.drewN k).drewN m) := Lib.hid (fun k => pk_level _ _ _ _ _ (h3.on (belowDrewN W3 k)).pq.bkt ok3)
        have hd : (((goL l Q) : Nat) : Int).tdiv 1000000 = (((goL l Q) / 1000000 : Nat) : Int) := by rw [Int.tdiv_eq_ediv_of_nonneg (by omega)]; rfl
        have hd2 : (((goL l Q) : Nat) : Int) / 1000000 = (((goL l Q) / 1000000 : Nat) : Int) := by omega
        have yD : IntKind.i64.wrap (((goL l Q) / 1000000 : Nat) : Int) = (((goL l Q) / 1000000 : Nat) : Int) := i64_nn _ (by omega)
        have HF := Lib.hid (⟨h3, ok3, qu3, sm3, hc3⟩ : _ ∧ _ ∧ _ ∧ _ ∧ _)
        clear hnq h3 ok3 qu3 sm3 hc3 hl3 hu3
        obtain ⟨LV, hLV⟩ : ∃ LV, LV = (goL l Q) := ⟨_, rfl⟩
        obtain ⟨CV, hCV⟩ : ∃ CV, CV = cut := ⟨_, rfl⟩
        rw [← hLV] at kb C4 hd hd2 yD
        rw [← hCV] at k2 C2
        clear hLV hCV
        generalize LV / 1000000 = D at *
        go_upto_region 26 with (fail)
        go_quiet ((first | (go_at_call 15; refine Calls.quiet_of (C1.out _)) | (go_at_call 10; refine Calls.quiet_of (C2.out _)) | (go_at_call 17; refine Calls.quiet_of (C3.out _)) | (go_at_call 24; refine Calls.quiet_of (C4.out _))))
        go_wp2_with fail
        go_roundw
        case rel => exact ⟨q + 1, by omega, by omega, by go_num, Lib.hid ⟨_, _, _, _, _, _, _, HF.out.1.on (belowDrewN W3 _), HF.out.2.1, HF.out.2.2.1, HF.out.2.2.2.1, HF.out.2.2.2.2⟩⟩
        case measure => simp [intOf]; omega
      have j3 : ((kd : Int) == 3) = false := by rw [beq_eq_false_iff_ne]; exact k3
      by_cases k4 : kd = 4
      · subst k4
        go_wp2_with fail
        ((with_reducible refine (pq_tick hy.pq ok hn64).mono ?_); rintro e W2 hp2)
        obtain ⟨rfl, S2, h2, hS2⟩ := hy.out hp2
        have HA2 : Blk W2 ga 24 #[.int .i64 4, .int .i64 nn] := (hp2.2.choose_spec.2.2.block ga HA.lt (fun e => nA ga e rfl)).trans HA
        have i1 := HA2.cell 1
        obtain ⟨⟨k0, _, _⟩, _, _⟩ := h2.rq.cells
        have k0 : W2.drew.cell? ⟨G', 0, none⟩ = some (.pointer (some ⟨g', 0, none⟩)) := k0
        have i1 : W2.drew.cell? ⟨ga, 1, none⟩ = some (.int .i64 nn) := i1
        have h2d := h2.on (belowDrewN W2 1)
        have CR := Lib.hid (ref_tick g' r u l nn W2.drew h2d.rq.bkt ok hn64)
        have H2 := Lib.hid h2d
        clear hp2 hy HA HA2 e0 e1 h2 hS2 h2d
        go_upto_region 22 with (fail)
        go_still_tail 6, (by kernel_rfl)
        change wpList _ _ _ _ _ W2.drew
        go_wp2_with fail
        refine CR.out.mono ?_
        rintro e W3 ⟨rfl, hb3, o3⟩
        have h3 := H2.out.ref (H2.out.rq.bucket hb3 o3) (OnlyS.one (S := fun k => k = G' ∨ k = g') o3 (.inr rfl)) HG.out.1 HG.out.2 (fun ad hA hQ => .inl ⟨hA, hQ⟩)
        have ok3 := tick_ok ok nn
        have qu3 := qu
        have sm3 := sm
        have hc3 : cut ≤ q + 1 := Nat.le_succ_of_le hc
        clear ok qu sm hc H2 CR hb3 o3 i1 k0
        obtain ⟨⟨k0, k1, k2⟩, _, _⟩ := h3.rq.cells
        have kb : W3.cell? ⟨g', 2, none⟩ = some (.int .i64 ((tickN r u l nn) : Int)) := Blk.cell h3.rq.bkt 2
        obtain ⟨nq, hnq⟩ : ∃ nq, nq = (Q).length := ⟨_, rfl⟩
        rw [← hnq] at k1
        have hl3 := ok3.level
        have hu3 := ok3.burst
        have C1 : Hid (∀ k, Calls Try.prog 15 #[.pointer (some ⟨G, 0, none⟩)] (W3.drewN k) fun e w' => e = .returned (.int .i64 (nq : Int)) ∧ ∃ m, w' = (W3.drewN k).drewN m) := Lib.hid (fun k => by rw [hnq]; exact pq_len (h3.on (belowDrewN W3 k)).pq)
        have C2 : Hid (∀ k, Calls Try.prog 10 #[.pointer (some ⟨G, 0, none⟩)] (W3.drewN k) fun e w' => e = .returned (.int .i64 (cut : Int)) ∧ ∃ m, w' = (W3.drewN k).drewN m) := Lib.hid (fun k => pq_cut (h3.on (belowDrewN W3 k)).pq)
        have C3 : Hid (∀ k, Calls Try.prog 17 #[.pointer (some ⟨G, 0, none⟩)] (W3.drewN k) fun e w' => e = .returned (.pointer (some ⟨gb, 0, none⟩)) ∧ ∃ m, w' = (W3.drewN k).drewN m) := Lib.hid (fun k => pq_bucket (h3.on (belowDrewN W3 k)).pq)
        have C4 : Hid (∀ k, Calls Try.prog 24 #[.pointer (some ⟨gb, 0, none⟩)] (W3.drewN k) fun e w' => e = .returned (.int .i64 (((tickN r u l nn) / 1000000 : Nat) : Int)) ∧ ∃ m, w' = (W3.drewN k).drewN m) := Lib.hid (fun k => pk_level _ _ _ _ _ (h3.on (belowDrewN W3 k)).pq.bkt ok3)
        have hd : (((tickN r u l nn) : Nat) : Int).tdiv 1000000 = (((tickN r u l nn) / 1000000 : Nat) : Int) := by rw [Int.tdiv_eq_ediv_of_nonneg (by omega)]; rfl
        have hd2 : (((tickN r u l nn) : Nat) : Int) / 1000000 = (((tickN r u l nn) / 1000000 : Nat) : Int) := by omega
        have yD : IntKind.i64.wrap (((tickN r u l nn) / 1000000 : Nat) : Int) = (((tickN r u l nn) / 1000000 : Nat) : Int) := i64_nn _ (by omega)
        have HF := Lib.hid (⟨h3, ok3, qu3, sm3, hc3⟩ : _ ∧ _ ∧ _ ∧ _ ∧ _)
        clear hnq h3 ok3 qu3 sm3 hc3 hl3 hu3
        obtain ⟨LV, hLV⟩ : ∃ LV, LV = (tickN r u l nn) := ⟨_, rfl⟩
        obtain ⟨CV, hCV⟩ : ∃ CV, CV = cut := ⟨_, rfl⟩
        rw [← hLV] at kb C4 hd hd2 yD
        rw [← hCV] at k2 C2
        clear hLV hCV
        generalize LV / 1000000 = D at *
        go_upto_region 26 with (fail)
        go_quiet ((first | (go_at_call 15; refine Calls.quiet_of (C1.out _)) | (go_at_call 10; refine Calls.quiet_of (C2.out _)) | (go_at_call 17; refine Calls.quiet_of (C3.out _)) | (go_at_call 24; refine Calls.quiet_of (C4.out _))))
        go_wp2_with fail
        go_roundw
        case rel => exact ⟨q + 1, by omega, by omega, by go_num, Lib.hid ⟨_, _, _, _, _, _, _, HF.out.1.on (belowDrewN W3 _), HF.out.2.1, HF.out.2.2.1, HF.out.2.2.2.1, HF.out.2.2.2.2⟩⟩
        case measure => simp [intOf]; omega
      have j4 : ((kd : Int) == 4) = false := by rw [beq_eq_false_iff_ne]; exact k4
      by_cases k5 : kd = 5
      · subst k5
        go_wp2_with fail
        ((with_reducible refine (pq_rate hy.pq hn64).mono ?_); rintro e W2 hp2)
        obtain ⟨rfl, S2, h2, hS2⟩ := hy.out hp2
        have HA2 : Blk W2 ga 24 #[.int .i64 5, .int .i64 nn] := (hp2.2.choose_spec.2.2.block ga HA.lt (fun e => nA ga e rfl)).trans HA
        have i1 := HA2.cell 1
        obtain ⟨⟨k0, _, _⟩, _, _⟩ := h2.rq.cells
        have k0 : W2.drew.cell? ⟨G', 0, none⟩ = some (.pointer (some ⟨g', 0, none⟩)) := k0
        have i1 : W2.drew.cell? ⟨ga, 1, none⟩ = some (.int .i64 nn) := i1
        have h2d := h2.on (belowDrewN W2 1)
        have CR := Lib.hid (ref_set g' r u l nn W2.drew h2d.rq.bkt hn64)
        have H2 := Lib.hid h2d
        clear hp2 hy HA HA2 e0 e1 h2 hS2 h2d
        go_upto_region 25 with (fail)
        go_still_tail 6, (by kernel_rfl)
        change wpList _ _ _ _ _ W2.drew
        go_wp2_with fail
        refine CR.out.mono ?_
        rintro e W3 ⟨rfl, hb3, o3⟩
        have h3 := H2.out.ref (H2.out.rq.bucket hb3 o3) (OnlyS.one (S := fun k => k = G' ∨ k = g') o3 (.inr rfl)) HG.out.1 HG.out.2 (fun ad hA hQ => .inl ⟨hA, hQ⟩)
        have ok3 := (⟨heldN_le nn, ok.burst, ok.level⟩ : BkOk (heldN nn) u l)
        have qu3 := qu
        have sm3 := sm
        have hc3 : cut ≤ q + 1 := Nat.le_succ_of_le hc
        clear ok qu sm hc H2 CR hb3 o3 i1 k0
        obtain ⟨⟨k0, k1, k2⟩, _, _⟩ := h3.rq.cells
        have kb : W3.cell? ⟨g', 2, none⟩ = some (.int .i64 (l : Int)) := Blk.cell h3.rq.bkt 2
        obtain ⟨nq, hnq⟩ : ∃ nq, nq = (Q).length := ⟨_, rfl⟩
        rw [← hnq] at k1
        have hl3 := ok3.level
        have hu3 := ok3.burst
        have C1 : Hid (∀ k, Calls Try.prog 15 #[.pointer (some ⟨G, 0, none⟩)] (W3.drewN k) fun e w' => e = .returned (.int .i64 (nq : Int)) ∧ ∃ m, w' = (W3.drewN k).drewN m) := Lib.hid (fun k => by rw [hnq]; exact pq_len (h3.on (belowDrewN W3 k)).pq)
        have C2 : Hid (∀ k, Calls Try.prog 10 #[.pointer (some ⟨G, 0, none⟩)] (W3.drewN k) fun e w' => e = .returned (.int .i64 (cut : Int)) ∧ ∃ m, w' = (W3.drewN k).drewN m) := Lib.hid (fun k => pq_cut (h3.on (belowDrewN W3 k)).pq)
        have C3 : Hid (∀ k, Calls Try.prog 17 #[.pointer (some ⟨G, 0, none⟩)] (W3.drewN k) fun e w' => e = .returned (.pointer (some ⟨gb, 0, none⟩)) ∧ ∃ m, w' = (W3.drewN k).drewN m) := Lib.hid (fun k => pq_bucket (h3.on (belowDrewN W3 k)).pq)
        have C4 : Hid (∀ k, Calls Try.prog 24 #[.pointer (some ⟨gb, 0, none⟩)] (W3.drewN k) fun e w' => e = .returned (.int .i64 ((l / 1000000 : Nat) : Int)) ∧ ∃ m, w' = (W3.drewN k).drewN m) := Lib.hid (fun k => pk_level _ _ _ _ _ (h3.on (belowDrewN W3 k)).pq.bkt ok3)
        have hd : ((l : Nat) : Int).tdiv 1000000 = ((l / 1000000 : Nat) : Int) := by rw [Int.tdiv_eq_ediv_of_nonneg (by omega)]; rfl
        have hd2 : ((l : Nat) : Int) / 1000000 = ((l / 1000000 : Nat) : Int) := by omega
        have yD : IntKind.i64.wrap ((l / 1000000 : Nat) : Int) = ((l / 1000000 : Nat) : Int) := i64_nn _ (by omega)
        have HF := Lib.hid (⟨h3, ok3, qu3, sm3, hc3⟩ : _ ∧ _ ∧ _ ∧ _ ∧ _)
        clear hnq h3 ok3 qu3 sm3 hc3 hl3 hu3
        obtain ⟨LV, hLV⟩ : ∃ LV, LV = l := ⟨_, rfl⟩
        obtain ⟨CV, hCV⟩ : ∃ CV, CV = cut := ⟨_, rfl⟩
        rw [← hLV] at kb C4 hd hd2 yD
        rw [← hCV] at k2 C2
        clear hLV hCV
        generalize LV / 1000000 = D at *
        go_upto_region 26 with (fail)
        go_quiet ((first | (go_at_call 15; refine Calls.quiet_of (C1.out _)) | (go_at_call 10; refine Calls.quiet_of (C2.out _)) | (go_at_call 17; refine Calls.quiet_of (C3.out _)) | (go_at_call 24; refine Calls.quiet_of (C4.out _))))
        go_wp2_with fail
        go_roundw
        case rel => exact ⟨q + 1, by omega, by omega, by go_num, Lib.hid ⟨_, _, _, _, _, _, _, HF.out.1.on (belowDrewN W3 _), HF.out.2.1, HF.out.2.2.1, HF.out.2.2.2.1, HF.out.2.2.2.2⟩⟩
        case measure => simp [intOf]; omega
      have j5 : ((kd : Int) == 5) = false := by rw [beq_eq_false_iff_ne]; exact k5
      clear k3 k4 k5
      obtain ⟨m, hm, lm⟩ := bits_and_le nn 1023 (by omega)
      have HM : Hid (bits .and .i64 nn 1023 = (m : Int)) := Lib.hid hm
      have hm := HM.out
      have hmk : ∀ W, (Instr.makeSlice 29 (.int .i64 (m : Int)) (.int .i64 (m : Int))).run Try.prog W = .ok (.slice (some ⟨W.heap.size, 0, none⟩) m m) (W.alloc (.cells (zl m).toArray 5)) := fun W => run_make8 m (by omega) W
      have hyB := hy.on (belowA W0 (.cells (zl m).toArray 5))
      have hBb : Blk (W0.alloc (.cells (zl m).toArray 5)) W0.heap.size 5 ((List.replicate m (0 : UInt8)).map bv).toArray := Blk.new _ _ _
      have hnB : ∀ k, S k → k ≠ W0.heap.size := fun k hk e => by have := hy.pq.lt hk; omega
      have hrB : ∀ ad, A = some ad → 0 < Q.length → ad.block ≠ W0.heap.size := fun ad hA hQ e => by have := hy.rowlt hA hQ; omega
      have HB0 := Lib.hid (⟨hyB, hBb, hnB, hrB, hy.rq.blk.lt, BkAt.lt hy.rq.bkt, hy.below.size⟩ : _ ∧ _ ∧ _ ∧ _ ∧ _ ∧ _ ∧ _)
      clear hyB hBb hnB hrB hy HA
      go_upto_region 10 with (fail)
      clear hm hmk e0 e1
      generalize W0.alloc (.cells (zl m).toArray 5) = V at HB0 ⊢
      generalize W0.heap.size = gB at HB0 ⊢
      have HK := Lib.hid (⟨ok, qu, sm, hc⟩ : _ ∧ _ ∧ _ ∧ _)
      clear ok qu sm hc
      go_wp2_with fail
      go_loopw [12, 48] (fun _ i wx => ∃ k : Nat, k ≤ m ∧ i = .int .i64 (k : Int) ∧ Hid (∃ x : List UInt8, x.length = m ∧ Blk wx gB 5 (x.map bv).toArray ∧ OnlyS (fun g => g = gB) V wx)) (fun _ i _ => m - (intOf i).toNat)
      case atStart => exact ⟨0, by omega, rfl, Lib.hid ⟨_, by simp, HB0.out.2.1, OnlyS.of (Below.refl _ _)⟩⟩
      case round =>
        obtain ⟨k, hk, rfl, HXB⟩ := hrel
        obtain ⟨x, hxl, hxb, hxo⟩ := HXB.out
        by_cases hkm : k < m
        · have g1 : decide ((k : Int) < (m : Int)) = true := by simp; omega
          have g3 : (k : Int) < (m : Int) := by omega
          obtain ⟨y, hy, y256⟩ : ∃ y : Nat, ((q : Int) + (k : Int)) % 256 = (y : Int) ∧ y < 256 := ⟨(q + k) % 256, by omega, by omega⟩
          have z1 : wr.cell? ⟨gB, k, none⟩ = some (bv (x.getD k 0)) := by
            rw [hxb.cell k]
            have : k < x.length := by omega
            simp [List.getD, this]
          have z2 := hxb.frozen k
          have hset : Blk (wr.setCell ⟨gB, k, none⟩ (.int .u8 (y : Int))) gB 5 ((x.set k (UInt8.ofNat y)).map bv).toArray := by
            have := hxb.set_ k (.int .u8 (y : Int))
            have e : ((x.map bv).toArray.setIfInBounds k (.int .u8 (y : Int))) = ((x.set k (UInt8.ofNat y)).map bv).toArray := by
              rw [List.setIfInBounds_toArray, List.map_set]
              congr 2
              unfold bv
              rw [UInt8.toNat_ofNat', Nat.mod_eq_of_lt y256]
            rw [e] at this
            exact this
          have HN := Lib.hid (⟨x.set k (UInt8.ofNat y), by rw [List.length_set]; exact hxl, hset, hxo.trans (OnlyS.one (S := fun g => g = gB) (Only.set gB k wr (.int .u8 (y : Int))) rfl) (fun i hi _ => hi)⟩ : ∃ x : List UInt8, x.length = m ∧ Blk (wr.setCell ⟨gB, k, none⟩ (.int .u8 (y : Int))) gB 5 (x.map bv).toArray ∧ OnlyS (fun g => g = gB) V (wr.setCell ⟨gB, k, none⟩ (.int .u8 (y : Int))))
          clear hset hxb hxo hxl HXB
          go_wp2_with fail
          go_roundw
          case rel => exact ⟨k + 1, by omega, by go_num, HN⟩
          case measure => simp [intOf]; omega
        · have g1 : decide ((k : Int) < (m : Int)) = false := by simp; omega
          obtain ⟨hyV, _, hnB, hrB, hG1, hG2, hG3⟩ := HB0.out
          obtain ⟨ok, qu, sm, hc⟩ := HK.out
          have hlo := fun k (hk : k = gB) => (by rw [hk]; exact hG3 : w.heap.size ≤ k)
          have hy := hyV.other hxo hlo (fun k hk (e : k = gB) => hnB k hk e) (fun e : G' = gB => by omega) (fun e : g' = gB => by omega) (fun ad hA hQ (e : ad.block = gB) => hrB ad hA hQ e)
          have hr8 := hxb.r8 hxl (Nat.le_refl m)
          have hgBw := hxb.lt
          clear hxo hyV hrB hG1 hG2 hG3 hlo HXB HB0
          have hp := pq_put hy.pq ok qu (Nat.le_trans hc (by omega)) hr8 (by omega)
          go_wp2_with fail
          ((with_reducible refine hp.mono ?_); rintro e W2 hp2)
          obtain ⟨e2, S2, h2, hS2⟩ := hy.out hp2
          subst e2
          have hb2 : Blk W2 gB 5 (x.map bv).toArray := (hp2.2.choose_spec.2.2.block gB hgBw (fun e => hnB gB e rfl)).trans hxb
          have hr2 : R8 W2 W2.heap.size (some ⟨gB, 0, none⟩) m m x := hb2.r8 hxl (Nat.le_refl m)
          have hq2 := ref_qput G' g' r u l Q cut A c W2 h2.rq qu.len ok.burst (Nat.le_trans hc (by omega)) (some ⟨gB, 0, none⟩) m m x hr2 (by omega)
          have hxm : x.length ≤ 1023 := by omega
          clear hp hp2 hy hr8 hxb hr2 hb2
          go_wp2_with fail
          ((with_reducible refine hq2.mono ?_); rintro e W3 ⟨rfl, A3, c3, hq3, ho3, hA3⟩)
          have h3 := h2.ref hq3 (ho3.more (T := fun k => k = G' ∨ k = g') (fun k hk => .inl hk)) HG.out.1 HG.out.2 (fun ad hA hQ => by
            rcases hA3 ad hA with h1 | h1
            · refine .inl ⟨h1.2, ?_⟩
              unfold putQ at hQ
              rw [h1.1] at hQ
              exact hQ
            · exact .inr h1)
          have ok3 := ok
          have qu3 := putQ_ok (b := x) qu
          have sm3 : ∀ b ∈ putQ u Q x, b.length ≤ 1023 := fun b hb => by
            unfold putQ at hb
            split at hb
            · rcases List.mem_append.1 hb with h1 | h1
              · exact sm b h1
              · rw [List.mem_singleton] at h1
                rw [h1]
                exact hxm
            · exact sm b hb
          have hc3 : putC u Q x cut ≤ q + 1 := by unfold putC; split <;> omega
          clear hq2 h2 hq3 ho3 hA3 ok qu sm hc
          generalize putB u Q x = PB
          generalize putQ u Q x = PQ at *
          generalize putC u Q x cut = PC at *
          cases PB
          · obtain ⟨⟨k0, k1, k2⟩, _, _⟩ := h3.rq.cells
            have kb : W3.cell? ⟨g', 2, none⟩ = some (.int .i64 (l : Int)) := Blk.cell h3.rq.bkt 2
            obtain ⟨nq, hnq⟩ : ∃ nq, nq = (PQ).length := ⟨_, rfl⟩
            rw [← hnq] at k1
            have hl3 := ok3.level
            have hu3 := ok3.burst
            have C1 : Hid (∀ k, Calls Try.prog 15 #[.pointer (some ⟨G, 0, none⟩)] (W3.drewN k) fun e w' => e = .returned (.int .i64 (nq : Int)) ∧ ∃ m, w' = (W3.drewN k).drewN m) := Lib.hid (fun k => by rw [hnq]; exact pq_len (h3.on (belowDrewN W3 k)).pq)
            have C2 : Hid (∀ k, Calls Try.prog 10 #[.pointer (some ⟨G, 0, none⟩)] (W3.drewN k) fun e w' => e = .returned (.int .i64 (PC : Int)) ∧ ∃ m, w' = (W3.drewN k).drewN m) := Lib.hid (fun k => pq_cut (h3.on (belowDrewN W3 k)).pq)
            have C3 : Hid (∀ k, Calls Try.prog 17 #[.pointer (some ⟨G, 0, none⟩)] (W3.drewN k) fun e w' => e = .returned (.pointer (some ⟨gb, 0, none⟩)) ∧ ∃ m, w' = (W3.drewN k).drewN m) := Lib.hid (fun k => pq_bucket (h3.on (belowDrewN W3 k)).pq)
            have C4 : Hid (∀ k, Calls Try.prog 24 #[.pointer (some ⟨gb, 0, none⟩)] (W3.drewN k) fun e w' => e = .returned (.int .i64 ((l / 1000000 : Nat) : Int)) ∧ ∃ m, w' = (W3.drewN k).drewN m) := Lib.hid (fun k => pk_level _ _ _ _ _ (h3.on (belowDrewN W3 k)).pq.bkt ok3)
            have hd : ((l : Nat) : Int).tdiv 1000000 = ((l / 1000000 : Nat) : Int) := by rw [Int.tdiv_eq_ediv_of_nonneg (by omega)]; rfl
            have hd2 : ((l : Nat) : Int) / 1000000 = ((l / 1000000 : Nat) : Int) := by omega
            have yD : IntKind.i64.wrap ((l / 1000000 : Nat) : Int) = ((l / 1000000 : Nat) : Int) := i64_nn _ (by omega)
            have HF := Lib.hid (⟨h3, ok3, qu3, sm3, hc3⟩ : _ ∧ _ ∧ _ ∧ _ ∧ _)
            clear hnq h3 ok3 qu3 sm3 hc3 hl3 hu3
            obtain ⟨LV, hLV⟩ : ∃ LV, LV = l := ⟨_, rfl⟩
            obtain ⟨CV, hCV⟩ : ∃ CV, CV = PC := ⟨_, rfl⟩
            rw [← hLV] at kb C4 hd hd2 yD
            rw [← hCV] at k2 C2
            clear hLV hCV
            generalize LV / 1000000 = D at *
            go_upto_region 26 with (fail)
            go_quiet ((first | (go_at_call 15; refine Calls.quiet_of (C1.out _)) | (go_at_call 10; refine Calls.quiet_of (C2.out _)) | (go_at_call 17; refine Calls.quiet_of (C3.out _)) | (go_at_call 24; refine Calls.quiet_of (C4.out _))))
            go_wp2_with fail
            go_roundw
            case rel => exact ⟨q + 1, by omega, by omega, by go_num, Lib.hid ⟨_, _, _, _, _, _, _, HF.out.1.on (belowDrewN W3 _), HF.out.2.1, HF.out.2.2.1, HF.out.2.2.2.1, HF.out.2.2.2.2⟩⟩
            case measure => simp [intOf]; omega
          · obtain ⟨⟨k0, k1, k2⟩, _, _⟩ := h3.rq.cells
            have kb : W3.cell? ⟨g', 2, none⟩ = some (.int .i64 (l : Int)) := Blk.cell h3.rq.bkt 2
            obtain ⟨nq, hnq⟩ : ∃ nq, nq = (PQ).length := ⟨_, rfl⟩
            rw [← hnq] at k1
            have hl3 := ok3.level
            have hu3 := ok3.burst
            have C1 : Hid (∀ k, Calls Try.prog 15 #[.pointer (some ⟨G, 0, none⟩)] (W3.drewN k) fun e w' => e = .returned (.int .i64 (nq : Int)) ∧ ∃ m, w' = (W3.drewN k).drewN m) := Lib.hid (fun k => by rw [hnq]; exact pq_len (h3.on (belowDrewN W3 k)).pq)
            have C2 : Hid (∀ k, Calls Try.prog 10 #[.pointer (some ⟨G, 0, none⟩)] (W3.drewN k) fun e w' => e = .returned (.int .i64 (PC : Int)) ∧ ∃ m, w' = (W3.drewN k).drewN m) := Lib.hid (fun k => pq_cut (h3.on (belowDrewN W3 k)).pq)
            have C3 : Hid (∀ k, Calls Try.prog 17 #[.pointer (some ⟨G, 0, none⟩)] (W3.drewN k) fun e w' => e = .returned (.pointer (some ⟨gb, 0, none⟩)) ∧ ∃ m, w' = (W3.drewN k).drewN m) := Lib.hid (fun k => pq_bucket (h3.on (belowDrewN W3 k)).pq)
            have C4 : Hid (∀ k, Calls Try.prog 24 #[.pointer (some ⟨gb, 0, none⟩)] (W3.drewN k) fun e w' => e = .returned (.int .i64 ((l / 1000000 : Nat) : Int)) ∧ ∃ m, w' = (W3.drewN k).drewN m) := Lib.hid (fun k => pk_level _ _ _ _ _ (h3.on (belowDrewN W3 k)).pq.bkt ok3)
            have hd : ((l : Nat) : Int).tdiv 1000000 = ((l / 1000000 : Nat) : Int) := by rw [Int.tdiv_eq_ediv_of_nonneg (by omega)]; rfl
            have hd2 : ((l : Nat) : Int) / 1000000 = ((l / 1000000 : Nat) : Int) := by omega
            have yD : IntKind.i64.wrap ((l / 1000000 : Nat) : Int) = ((l / 1000000 : Nat) : Int) := i64_nn _ (by omega)
            have HF := Lib.hid (⟨h3, ok3, qu3, sm3, hc3⟩ : _ ∧ _ ∧ _ ∧ _ ∧ _)
            clear hnq h3 ok3 qu3 sm3 hc3 hl3 hu3
            obtain ⟨LV, hLV⟩ : ∃ LV, LV = l := ⟨_, rfl⟩
            obtain ⟨CV, hCV⟩ : ∃ CV, CV = PC := ⟨_, rfl⟩
            rw [← hLV] at kb C4 hd hd2 yD
            rw [← hCV] at k2 C2
            clear hLV hCV
            generalize LV / 1000000 = D at *
            go_upto_region 26 with (fail)
            go_quiet ((first | (go_at_call 15; refine Calls.quiet_of (C1.out _)) | (go_at_call 10; refine Calls.quiet_of (C2.out _)) | (go_at_call 17; refine Calls.quiet_of (C3.out _)) | (go_at_call 24; refine Calls.quiet_of (C4.out _))))
            go_wp2_with fail
            go_roundw
            case rel => exact ⟨q + 1, by omega, by omega, by go_num, Lib.hid ⟨_, _, _, _, _, _, _, HF.out.1.on (belowDrewN W3 _), HF.out.2.1, HF.out.2.2.1, HF.out.2.2.2.1, HF.out.2.2.2.2⟩⟩
            case measure => simp [intOf]; omega
    · have HS : Hid (¬ (q < n ∧ q < 100)) := Lib.hid hlt
      clear hlt
      obtain ⟨r, l, Q, cut, A, c, S, hy, ok, qu, sm, hc⟩ := HP.out
      clear HP
      by_cases hl1 : q < n
      · have hl2 : ¬ q < 100 := fun h => HS.out ⟨hl1, h⟩
        have g1 : decide ((q : Int) < (n : Int)) = true := by simp; omega
        have g2 : decide ((q : Int) < 100) = false := by simp; omega
        clear HS
        have hfit : ∀ b ∈ Q, b.length ≤ 100000 := fun b hb => Nat.le_trans (sm b hb) (by omega)
        go_wp2_with fail
        ((with_reducible refine (pq_go hy.pq ok qu hfit).mono ?_); rintro e W2 ⟨Ao, no, co, S2, F, rfl, rb, hF, hp2, hS2, ho2, _⟩)
        have h2 := hy.turn hp2 hS2 ho2
        have hF2 : ∀ k, F k → ¬ (k = G' ∨ k = g') := fun k hk hT => by
          rcases hF k hk with h1 | h1
          · rcases hT with hT | hT
            · exact (hy.sep k h1).1 hT
            · exact (hy.sep k h1).2.1 hT
          · have := hy.rq.blk.lt
            have := BkAt.lt hy.rq.bkt
            omega
        clear hy hp2 hS2 ho2 hF
        go_wp2_with fail
        ((with_reducible refine (ref_qgo G' g' r u l Q cut A c W2 h2.rq ok qu.len hfit).mono ?_); rintro e W4 ⟨Ar, nr, cr, rfl, rs, _, A3, c3, hq3, ho3, hA3⟩)
        have rb4 := rb.keep ho3 hF2
        have h4 := h2.ref hq3 ho3 HG.out.1 HG.out.2 (fun ad hA hQ => by
          rcases hA3 ad hA with h1 | h1
          · exact .inl ⟨h1, Nat.lt_of_lt_of_le hQ (goR_len l Q)⟩
          · exact .inr h1)
        have hno : no ≤ 16 := by have h1 := rb.1; have h3 := goO_len l Q; have := qu.len; omega
        clear h2 rb hF2 hq3 ho3 hA3 hfit
        go_wp2_with fail
        ((with_reducible refine (rows_yes W4 Ao no co _ F rb4 Ar nr cr rs (by omega)).mono ?_); rintro e W3 ⟨rfl, d3⟩)
        have b3 := h4.below.trans (d3.mono h4.below.size)
        clear h4 rb4 rs d3
        go_wp2_with fail
        go_ret
        exact ⟨rfl, b3⟩
      · have g1 : decide ((q : Int) < (n : Int)) = false := by simp; omega
        clear HS
        have hfit : ∀ b ∈ Q, b.length ≤ 100000 := fun b hb => Nat.le_trans (sm b hb) (by omega)
        go_wp2_with fail
        ((with_reducible refine (pq_go hy.pq ok qu hfit).mono ?_); rintro e W2 ⟨Ao, no, co, S2, F, rfl, rb, hF, hp2, hS2, ho2, _⟩)
        have h2 := hy.turn hp2 hS2 ho2
        have hF2 : ∀ k, F k → ¬ (k = G' ∨ k = g') := fun k hk hT => by
          rcases hF k hk with h1 | h1
          · rcases hT with hT | hT
            · exact (hy.sep k h1).1 hT
            · exact (hy.sep k h1).2.1 hT
          · have := hy.rq.blk.lt
            have := BkAt.lt hy.rq.bkt
            omega
        clear hy hp2 hS2 ho2 hF
        go_wp2_with fail
        ((with_reducible refine (ref_qgo G' g' r u l Q cut A c W2 h2.rq ok qu.len hfit).mono ?_); rintro e W4 ⟨Ar, nr, cr, rfl, rs, _, A3, c3, hq3, ho3, hA3⟩)
        have rb4 := rb.keep ho3 hF2
        have h4 := h2.ref hq3 ho3 HG.out.1 HG.out.2 (fun ad hA hQ => by
          rcases hA3 ad hA with h1 | h1
          · exact .inl ⟨h1, Nat.lt_of_lt_of_le hQ (goR_len l Q)⟩
          · exact .inr h1)
        have hno : no ≤ 16 := by have h1 := rb.1; have h3 := goO_len l Q; have := qu.len; omega
        clear h2 rb hF2 hq3 ho3 hA3 hfit
        go_wp2_with fail
        ((with_reducible refine (rows_yes W4 Ao no co _ F rb4 Ar nr cr rs (by omega)).mono ?_); rintro e W3 ⟨rfl, d3⟩)
        have b3 := h4.below.trans (d3.mono h4.below.size)
        clear h4 rb4 rs d3
        go_wp2_with fail
        go_ret
        exact ⟨rfl, b3⟩
end Go.Proofs.Ytdjopbhjfnakdaa
