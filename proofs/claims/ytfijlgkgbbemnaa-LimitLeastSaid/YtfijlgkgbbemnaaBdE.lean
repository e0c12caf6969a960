/- limelightref13's Set: what bounds. -/
import Derived.Test.YtfijlgkgbbemnaaBdD
namespace Go.Proofs.Ytfijlgkgbbemnaa
open Go.RowKit
set_option linter.unusedVariables false
set_option linter.unusedSimpArgs false
set_option maxRecDepth 20000

theorem ownTp_lit (w : World) (base : Nat) (a : Ln) (hb : base ≤ w.heap.size) : OwnTp (w.alloc (.cells #[.int .u32 (a.o : Int), .int .u64 (a.r : Int), .int .i64 (a.v : Int)] 31)) base (.slice (some ⟨w.heap.size, 0, none⟩) 1 1) [unT a] :=
  ⟨rfl, .inr ⟨w.heap.size, 1, #[.int .u32 (a.o : Int), .int .u64 (a.r : Int), .int .i64 (a.v : Int)], rfl, hb, Blk.new _ _ _, Nat.le_refl _, by decide, rfl, rfl⟩⟩
theorem own_put3 {W : World} {base size n g : Nat} {e : TypeId} {v : Value} {xs : List Value} (h : W.ownsRow base e size v n xs) (hg : g < base) (y0 y1 y2 : Value) : (((W.setCell ⟨g, 0, none⟩ y0).setCell ⟨g, 1, none⟩ y1).setCell ⟨g, 2, none⟩ y2).ownsRow base e size v n xs := by
  refine ⟨h.1, ?_⟩
  rcases h.2 with h1 | ⟨k, cap, cur, hv, hb, hk, hc⟩
  · exact .inl h1
  · refine .inr ⟨k, cap, cur, hv, hb, ?_, hc⟩
    rw [Below.heap_setCell _ _ _ _ (by simp only; omega), Below.heap_setCell _ _ _ _ (by simp only; omega), Below.heap_setCell _ _ _ _ (by simp only; omega)]
    exact hk
theorem ownTp_less {w : World} {base b2 : Nat} {v : Value} {l : List Tup} (h : OwnTp w base v l) (hb : b2 ≤ base) : OwnTp w b2 v l := by
  refine ⟨h.1, ?_⟩
  rcases h.2 with h1 | ⟨g, cap, cur, hv, hg⟩
  · exact .inl h1
  · exact .inr ⟨g, cap, cur, hv, Nat.le_trans hb hg.1, hg.2⟩
theorem one_in {a : Ln} (h : a.In) : ∀ x ∈ ([] : List Ln) ++ [a], x.In := fun x hx => by
  have hx : x = a := by simpa using hx
  rw [hx]; exact h
theorem ref_meets_at {A : Option Addr} {n c : Nat} {ls : List Ln} {ao ar av : Nat} {w : World} (h : RT w w.heap.size A n c (ls.map unT)) (hi : ∀ x ∈ ls, x.In) (ha : (⟨ao, ar, av⟩ : Ln).In) (hn : n ≤ 1000000) :
    Calls Try.prog 42 #[.slice A n c, .agg #[.int .u32 (ao : Int), .int .u64 (ar : Int), .int .i64 (av : Int)]] w (fun e w' => ((∃ bo br bv : Nat, IsNext ls ⟨ao, ar, av⟩ ⟨bo, br, bv⟩ ∧ above ⟨ao, ar, av⟩ ⟨bo, br, bv⟩ ∧ e = .returned (.tuple #[.agg #[.int .u32 (bo : Int), .int .u64 (br : Int), .int .i64 (bv : Int)], .bool true])) ∨ ((∀ b, IsNext ls ⟨ao, ar, av⟩ b → ¬ above ⟨ao, ar, av⟩ b) ∧ e = .returned (.tuple #[.agg #[.int .u32 0, .int .u64 0, .int .i64 0], .bool false]))) ∧ Below w.heap.size w w') :=
  (ref_meets A n c ls ⟨ao, ar, av⟩ w h hi ha hn).mono fun e w' ⟨h1, h2⟩ => ⟨by
    rcases h1 with ⟨b, k1, k2, k3⟩ | h1
    · exact .inl ⟨b.o, b.r, b.v, k1, k2, k3⟩
    · exact .inr h1, h2⟩
set_option maxHeartbeats 8000000 in
theorem ref_set13 (A : Option Addr) (n c : Nat) (l : List Tup) (w : World) (h : RT w w.heap.size A n c l) (hn : n ≤ 1000000) :
    Calls Try.prog 27 #[.slice A n c] w (SetOut l w) := by
  have hnl := h.1
  have hc := ref_all A n c l w h hn
  have hli := heldR_in h.2.1
  have hll : (heldR l).length = n := by rw [← hnl]; exact List.length_map ..
  obtain ⟨ls, hls⟩ : ∃ ls, ls = heldR l := ⟨_, rfl⟩
  rw [← hls] at hc hli hll
  have HLS := Lib.hid hls
  have HI := Lib.hid hli
  have HL := Lib.hid hll
  clear h hnl hli hls hll
  go_enter Try.func27, Try.ntmps27
  go_wp2_with fail
  ((with_reducible refine hc.mono ?_); rintro e W1 ⟨v1, rfl, o1, b1⟩)
  obtain ⟨A1, c1, rfl, r1, _⟩ := o1.rt (unR_in HI.out)
  rw [List.length_map, HL.out] at r1
  rw [List.length_map, HL.out]
  have HR := Lib.hid r1
  have HB1 := Lib.hid b1
  clear hc o1 r1 b1
  by_cases h0 : n = 0
  · subst h0
    have HE : Hid (ls = []) := Lib.hid (List.eq_nil_of_length_eq_zero HL.out)
    go_wp2_with fail
    go_ret
    exact ⟨_, [], rfl, .inl ⟨by rw [← HLS.out]; exact HE.out, rfl⟩, OwnTp.nil _ _, HB1.out⟩
  have h0i : ((n : Int) == 0) = false := by rw [beq_eq_false_iff_ne]; omega
  have h0l : 0 < ls.length := by rw [HL.out]; omega
  have h0n : 0 < n := by omega
  obtain ⟨bA, off, rfl, hbA, x0, x1, x2⟩ := HR.out.at (q := 0) (by simpa using h0l)
  simp only [List.getElem_map, Nat.zero_mul, Nat.add_zero] at x0 x1 x2
  have HA0 : Hid ((∀ c ∈ ls.take 1, ¬ fstL c ls[0]) ∧ ls[0] ∈ ls ∧ ls[0].In) := Lib.hid ⟨fun c hc hf => by
    rw [List.take_succ_eq_append_getElem h0l] at hc
    simp at hc
    rw [hc] at hf
    unfold fstL at hf
    omega, List.getElem_mem h0l, HI.out _ (List.getElem_mem h0l)⟩
  generalize ls[0] = a0 at x0 x1 x2 HA0
  obtain ⟨ao, ar, av⟩ := a0
  replace x0 : W1.cell? ⟨bA, off, none⟩ = some (.int .u32 (ao : Int)) := x0
  replace x1 : W1.cell? ⟨bA, off + 1, none⟩ = some (.int .u64 (ar : Int)) := x1
  replace x2 : W1.cell? ⟨bA, off + 2, none⟩ = some (.int .i64 (av : Int)) := x2
  have H0 : Hid (Below W1.heap.size W1 (W1.alloc (.cells #[.int .u32 (ao : Int), .int .u64 (ar : Int), .int .i64 (av : Int)] 31)) ∧ Blk (W1.alloc (.cells #[.int .u32 (ao : Int), .int .u64 (ar : Int), .int .i64 (av : Int)] 31)) W1.heap.size 31 #[.int .u32 (ao : Int), .int .u64 (ar : Int), .int .i64 (av : Int)]) := Lib.hid ⟨belowA W1 _, Blk.new _ _ _⟩
  clear h0 hbA
  go_upto_region 5 with (fail)
  generalize W1.alloc (.cells #[.int .u32 (ao : Int), .int .u64 (ar : Int), .int .i64 (av : Int)] 31) = W2 at H0 ⊢
  generalize hg3 : W1.heap.size = g3 at H0 ⊢
  have HG : Hid (g3 = W1.heap.size) := Lib.hid hg3.symm
  clear hg3
  clear x0 x1 x2 h0i h0n h0l
  go_wp2_with fail
  go_loopw [19] (fun i wr => ∃ (q : Nat) (a : Ln), q ≤ n ∧ i = .int .i64 (q : Int) ∧ Hid (Below g3 W1 wr ∧ Blk wr g3 31 #[.int .u32 (a.o : Int), .int .u64 (a.r : Int), .int .i64 (a.v : Int)] ∧ a ∈ ls ∧ (∀ c ∈ ls.take q, ¬ fstL c a) ∧ a.In)) (fun i _ => n - (intOf i).toNat)
  case atStart => exact ⟨0, ⟨ao, ar, av⟩, by omega, rfl, Lib.hid ⟨H0.out.1, H0.out.2, HA0.out.2.1, (fun c hc => by simp at hc), HA0.out.2.2⟩⟩
  case round =>
    obtain ⟨q, a, hq, rfl, HM⟩ := hrel
    clear H0 HA0
    by_cases hlt : q < n
    · have hql : q < ls.length := by rw [HL.out]; exact hlt
      obtain ⟨bA', off', eA, hbA, c0, c1, c2⟩ := (HR.out.below (show Below W1.heap.size W1 wr by rw [← HG.out]; exact HM.out.1)).at (q := q) (by simpa using hql)
      injection eA with eA
      injection eA with eA1 eA2
      subst eA1
      subst eA2
      simp only [List.getElem_map] at c0 c1 c2
      have HT : Hid (ls.take (q + 1) = ls.take q ++ [ls[q]]) := Lib.hid (List.take_succ_eq_append_getElem hql)
      have HTI : Hid (ls[q] ∈ ls ∧ ls[q].In) := Lib.hid ⟨List.getElem_mem hql, HI.out _ (List.getElem_mem hql)⟩
      generalize ls[q] = t at c0 c1 c2 HT HTI
      obtain ⟨to_, tr, tv⟩ := t
      obtain ⟨ao, ar, av⟩ := a
      replace c0 : wr.cell? ⟨bA, off + q * 3, none⟩ = some (.int .u32 (to_ : Int)) := c0
      replace c1 : wr.cell? ⟨bA, off + q * 3 + 1, none⟩ = some (.int .u64 (tr : Int)) := c1
      replace c2 : wr.cell? ⟨bA, off + q * 3 + 2, none⟩ = some (.int .i64 (tv : Int)) := c2
      have hM3 := HM.out.2.1
      have hb9 := belowA wr (.cells #[.int .u32 (to_ : Int), .int .u64 (tr : Int), .int .i64 (tv : Int)] 31)
      have H9 : Hid (Below g3 W1 (wr.alloc (.cells #[.int .u32 (to_ : Int), .int .u64 (tr : Int), .int .i64 (tv : Int)] 31)) ∧ Blk (wr.alloc (.cells #[.int .u32 (to_ : Int), .int .u64 (tr : Int), .int .i64 (tv : Int)] 31)) g3 31 #[.int .u32 (ao : Int), .int .u64 (ar : Int), .int .i64 (av : Int)] ∧ Blk (wr.alloc (.cells #[.int .u32 (to_ : Int), .int .u64 (tr : Int), .int .i64 (tv : Int)] 31)) wr.heap.size 31 #[.int .u32 (to_ : Int), .int .u64 (tr : Int), .int .i64 (tv : Int)]) := Lib.hid ⟨HM.out.1.trans (hb9.mono (Nat.le_of_lt hM3.lt)), (hb9.block g3 hM3.lt).trans hM3, Blk.new _ _ _⟩
      have HL9 : Hid ((∀ c ∈ ls.take q, ¬ fstL c ⟨ao, ar, av⟩) ∧ (⟨ao, ar, av⟩ : Ln) ∈ ls ∧ (⟨ao, ar, av⟩ : Ln).In) := Lib.hid ⟨HM.out.2.2.2.1, HM.out.2.2.1, HM.out.2.2.2.2⟩
      have g1 : (q : Int) < (n : Int) := by omega
      clear hM3 hb9 HM hbA hql
      go_upto_region 8 with (fail)
      generalize wr.alloc (.cells #[.int .u32 (to_ : Int), .int .u64 (tr : Int), .int .i64 (tv : Int)] 31) = W at H9 ⊢
      generalize wr.heap.size = g9 at H9 ⊢
      clear c0 c1 c2 hlt
      have k3o := H9.out.2.1.cell 0
      have k3r := H9.out.2.1.cell 1
      have k3v := H9.out.2.1.cell 2
      have f30 := H9.out.2.1.frozen 0
      have f31 := H9.out.2.1.frozen 1
      have f32 := H9.out.2.1.frozen 2
      have k9o := H9.out.2.2.cell 0
      have k9r := H9.out.2.2.cell 1
      have k9v := H9.out.2.2.cell 2
      have HPUT : Hid (Below g3 W1 (((W.setCell ⟨g3, 0, none⟩ (.int .u32 (to_ : Int))).setCell ⟨g3, 1, none⟩ (.int .u64 (tr : Int))).setCell ⟨g3, 2, none⟩ (.int .i64 (tv : Int))) ∧ Blk (((W.setCell ⟨g3, 0, none⟩ (.int .u32 (to_ : Int))).setCell ⟨g3, 1, none⟩ (.int .u64 (tr : Int))).setCell ⟨g3, 2, none⟩ (.int .i64 (tv : Int))) g3 31 #[.int .u32 (to_ : Int), .int .u64 (tr : Int), .int .i64 (tv : Int)]) := Lib.hid ⟨below_put3 H9.out.1 (Nat.le_refl _) _ _ _, blk_put3 H9.out.2.1 _ _ _⟩
      by_cases hr : tr < ar
      · have z1 : decide ((tr : Int) < (ar : Int)) = true := by simp; omega
        have z2 : (tr : Int) < (ar : Int) := by omega
        have HN : Hid (∀ c ∈ ls.take (q + 1), ¬ fstL c ⟨to_, tr, tv⟩) := Lib.hid (by rw [HT.out]; exact least_take HL9.out.1 (show fstL ⟨to_, tr, tv⟩ ⟨ao, ar, av⟩ from (by unfold fstL; simp only; omega)))
        go_wp2_with fail
        go_roundw
        case rel => exact ⟨q + 1, ⟨to_, tr, tv⟩, by omega, by go_num, Lib.hid ⟨HPUT.out.1, HPUT.out.2, HTI.out.1, HN.out, HTI.out.2⟩⟩
        case measure => simp [intOf]; omega
      by_cases hr2 : tr = ar
      · subst hr2
        have z2 : decide ((tr : Int) < (tr : Int)) = false := by simp
        by_cases hv : av < tv
        · have z3 : decide ((av : Int) < (tv : Int)) = true := by simp; omega
          have z4 : (av : Int) < (tv : Int) := by omega
          have HN : Hid (∀ c ∈ ls.take (q + 1), ¬ fstL c ⟨to_, tr, tv⟩) := Lib.hid (by rw [HT.out]; exact least_take HL9.out.1 (show fstL ⟨to_, tr, tv⟩ ⟨ao, tr, av⟩ from (by show tr < tr ∨ tr = tr ∧ (av < tv ∨ tv = av ∧ to_ < ao); omega)))
          go_wp2_with fail
          go_roundw
          case rel => exact ⟨q + 1, ⟨to_, tr, tv⟩, by omega, by go_num, Lib.hid ⟨HPUT.out.1, HPUT.out.2, HTI.out.1, HN.out, HTI.out.2⟩⟩
          case measure => simp [intOf]; omega
        by_cases hv2 : tv = av
        · subst hv2
          by_cases ho : to_ < ao
          · have z5 : decide ((to_ : Int) < (ao : Int)) = true := by simp; omega
            have z6 : (to_ : Int) < (ao : Int) := by omega
            have HN : Hid (∀ c ∈ ls.take (q + 1), ¬ fstL c ⟨to_, tr, tv⟩) := Lib.hid (by rw [HT.out]; exact least_take HL9.out.1 (show fstL ⟨to_, tr, tv⟩ ⟨ao, tr, tv⟩ from (by show tr < tr ∨ tr = tr ∧ (tv < tv ∨ tv = tv ∧ to_ < ao); omega)))
            go_wp2_with fail
            go_roundw
            case rel => exact ⟨q + 1, ⟨to_, tr, tv⟩, by omega, by go_num, Lib.hid ⟨HPUT.out.1, HPUT.out.2, HTI.out.1, HN.out, HTI.out.2⟩⟩
            case measure => simp [intOf]; omega
          · have z5 : decide ((to_ : Int) < (ao : Int)) = false := by simp; omega
            have z6 : ¬ (to_ : Int) < (ao : Int) := by omega
            have HN : Hid (∀ c ∈ ls.take (q + 1), ¬ fstL c ⟨ao, tr, tv⟩) := Lib.hid (by rw [HT.out]; exact least_stay HL9.out.1 (show ¬ fstL ⟨to_, tr, tv⟩ ⟨ao, tr, tv⟩ from (by unfold fstL; simp only; omega)))
            go_wp2_with fail
            go_roundw
            case rel => exact ⟨q + 1, ⟨ao, tr, tv⟩, by omega, by go_num, Lib.hid ⟨H9.out.1, H9.out.2.1, HL9.out.2.1, HN.out, HL9.out.2.2⟩⟩
            case measure => simp [intOf]; omega
        · have z3 : decide ((av : Int) < (tv : Int)) = false := by simp; omega
          have z4 : ¬ (av : Int) < (tv : Int) := by omega
          have z5 : ((tv : Int) == (av : Int)) = false := by rw [beq_eq_false_iff_ne]; omega
          have HN : Hid (∀ c ∈ ls.take (q + 1), ¬ fstL c ⟨ao, tr, av⟩) := Lib.hid (by rw [HT.out]; exact least_stay HL9.out.1 (show ¬ fstL ⟨to_, tr, tv⟩ ⟨ao, tr, av⟩ from (by unfold fstL; simp only; omega)))
          go_wp2_with fail
          go_roundw
          case rel => exact ⟨q + 1, ⟨ao, tr, av⟩, by omega, by go_num, Lib.hid ⟨H9.out.1, H9.out.2.1, HL9.out.2.1, HN.out, HL9.out.2.2⟩⟩
          case measure => simp [intOf]; omega
      · have z1 : decide ((tr : Int) < (ar : Int)) = false := by simp; omega
        have z2 : ¬ (tr : Int) < (ar : Int) := by omega
        have z3 : ((tr : Int) == (ar : Int)) = false := by rw [beq_eq_false_iff_ne]; omega
        have HN : Hid (∀ c ∈ ls.take (q + 1), ¬ fstL c ⟨ao, ar, av⟩) := Lib.hid (by rw [HT.out]; exact least_stay HL9.out.1 (show ¬ fstL ⟨to_, tr, tv⟩ ⟨ao, ar, av⟩ from (by unfold fstL; simp only; omega)))
        go_wp2_with fail
        go_roundw
        case rel => exact ⟨q + 1, ⟨ao, ar, av⟩, by omega, by go_num, Lib.hid ⟨H9.out.1, H9.out.2.1, HL9.out.2.1, HN.out, HL9.out.2.2⟩⟩
        case measure => simp [intOf]; omega
    · have hqn : q = n := by omega
      have HE : Hid (ls.take q = ls) := Lib.hid (List.take_of_length_le (by rw [HL.out]; omega))
      have z1 : ¬ (q : Int) < (n : Int) := by omega
      have hs := HM.out.2.2.2.1
      rw [HE.out] at hs
      have HS : Hid (SoFar ls [] a) := Lib.hid (soFar_start ⟨HM.out.2.2.1, hs⟩)
      obtain ⟨ao, ar, av⟩ := a
      have H3 := Lib.hid (⟨HM.out.1, HM.out.2.1, HM.out.2.2.2.2⟩ : _ ∧ _ ∧ _)
      have k3o := H3.out.2.1.cell 0
      have k3r := H3.out.2.1.cell 1
      have k3v := H3.out.2.1.cell 2
      have glt := H3.out.2.1.lt
      have o0 := ownTp_lit wr (g3 + 1) ⟨ao, ar, av⟩ (by omega)
      have hb0 := belowA wr (.cells #[.int .u32 (ao : Int), .int .u64 (ar : Int), .int .i64 (av : Int)] 31)
      have HX : Hid (OwnTp (wr.alloc (.cells #[.int .u32 (ao : Int), .int .u64 (ar : Int), .int .i64 (av : Int)] 31)) (g3 + 1) (.slice (some ⟨wr.heap.size, 0, none⟩) 1 1) (([] ++ [(⟨ao, ar, av⟩ : Ln)]).map unT) ∧ Below g3 W1 (wr.alloc (.cells #[.int .u32 (ao : Int), .int .u64 (ar : Int), .int .i64 (av : Int)] 31)) ∧ Blk (wr.alloc (.cells #[.int .u32 (ao : Int), .int .u64 (ar : Int), .int .i64 (av : Int)] 31)) g3 31 #[.int .u32 (ao : Int), .int .u64 (ar : Int), .int .i64 (av : Int)] ∧ (⟨ao, ar, av⟩ : Ln).In ∧ g3 + 1 ≤ (wr.alloc (.cells #[.int .u32 (ao : Int), .int .u64 (ar : Int), .int .i64 (av : Int)] 31)).heap.size) := Lib.hid ⟨o0, H3.out.1.trans (hb0.mono (Nat.le_of_lt glt)), (hb0.block g3 glt).trans H3.out.2.1, H3.out.2.2, by have := hb0.size; omega⟩
      clear hlt hqn hs HM glt o0 hb0 H3
      go_upto_block 2 with (fail)
      generalize wr.alloc (.cells #[.int .u32 (ao : Int), .int .u64 (ar : Int), .int .i64 (av : Int)] 31) = W3 at HX ⊢
      generalize wr.heap.size = g6 at HX ⊢
      clear k3o k3r k3v
      go_wp2_with fail
      go_loopw [6] (fun v wr => ∃ (P : List Ln) (a : Ln), Hid (SoFar ls P a ∧ OwnTp wr (g3 + 1) v ((P ++ [a]).map unT) ∧ Below g3 W1 wr ∧ Blk wr g3 31 #[.int .u32 (a.o : Int), .int .u64 (a.r : Int), .int .i64 (a.v : Int)] ∧ (∀ x ∈ P ++ [a], x.In) ∧ P.length ≤ a.v ∧ g3 + 1 ≤ wr.heap.size)) (fun _ wr => 512 - (intOf ((wr.cell? ⟨g3, 2, none⟩).getD undef)).toNat)
      case atStart => exact ⟨[], ⟨ao, ar, av⟩, Lib.hid ⟨HS.out, HX.out.1, HX.out.2.1, HX.out.2.2.1, one_in HX.out.2.2.2.1, Nat.zero_le _, HX.out.2.2.2.2⟩⟩
      case round =>
        obtain ⟨P, a, HQ⟩ := hrel
        clear HX HS
        obtain ⟨ao, ar, av⟩ := a
        have haI := HQ.out.2.2.2.2.1 ⟨ao, ar, av⟩ (by simp)
        have hg3 := HQ.out.2.2.2.1
        have k3o := hg3.cell 0
        have k3r := hg3.cell 1
        have k3v := hg3.cell 2
        have cm := ref_meets_at ((HR.out.below (show Below W1.heap.size W1 wr by rw [← HG.out]; exact HQ.out.2.2.1)).more (show W1.heap.size ≤ wr.heap.size from HQ.out.2.2.1.size)) HI.out haI hn
        obtain ⟨Av, cv, hv, _, _⟩ := HQ.out.2.1.rt (unR_in HQ.out.2.2.2.2.1)
        subst hv
        obtain ⟨m, hm⟩ : ∃ m, m = ((P ++ [(⟨ao, ar, av⟩ : Ln)]).map unT).length := ⟨_, rfl⟩
        rw [← hm] at HQ ⊢
        have HM := Lib.hid hm
        have hm512 : m ≤ 512 := by
          have h1 := HQ.out.2.2.2.2.2.1
          have h2 := haI.v
          simp only at h1 h2
          rw [hm]
          simp only [List.length_map, List.length_append, List.length_cons, List.length_nil]
          omega
        clear hm hg3
        go_wp2_with fail
        ((with_reducible refine cm.mono ?_); rintro e W5 ⟨ho, b5⟩)
        have hg5 := HQ.out.2.2.2.1.lt
        have bw5 : Below g3 W1 W5 := HQ.out.2.2.1.trans (b5.mono (Nat.le_of_lt hg5))
        have o5 := HQ.out.2.1.on b5
        have B5 : Blk W5 g3 31 #[.int .u32 (ao : Int), .int .u64 (ar : Int), .int .i64 (av : Int)] := (b5.block g3 hg5).trans HQ.out.2.2.2.1
        have hsz5 : g3 + 1 ≤ W5.heap.size := Nat.le_trans HQ.out.2.2.2.2.2.2 b5.size
        have HSF := Lib.hid HQ.out.1
        have HPI := Lib.hid (⟨HQ.out.2.2.2.2.1, HQ.out.2.2.2.2.2.1⟩ : _ ∧ _)
        clear cm k3o k3r HQ b5
        rcases ho with ⟨bo, br, bv, hn1, hab, rfl⟩ | ⟨hst, rfl⟩
        · have hbI : (⟨bo, br, bv⟩ : Ln).In := HI.out _ hn1.1
          have hvv : av < bv := hn1.2.1.1
          have hb512 : bv ≤ 511 := hbI.v
          have HNX := Lib.hid (⟨soFar_more HSF.out hn1 hab, hvv⟩ : SoFar ls (P ++ [⟨ao, ar, av⟩]) ⟨bo, br, bv⟩ ∧ _)
          have HBI := Lib.hid hbI
          have b6 := belowA W5 (.cells #[.int .u32 (bo : Int), .int .u64 (br : Int), .int .i64 (bv : Int)] 31)
          have b7 := belowA (W5.alloc (.cells #[.int .u32 (bo : Int), .int .u64 (br : Int), .int .i64 (bv : Int)] 31)) (.cells #[.int .u32 (bo : Int), .int .u64 (br : Int), .int .i64 (bv : Int)] 31)
          have o7 := (o5.on b6).on b7
          have r7 : RT ((W5.alloc (.cells #[.int .u32 (bo : Int), .int .u64 (br : Int), .int .i64 (bv : Int)] 31)).alloc (.cells #[.int .u32 (bo : Int), .int .u64 (br : Int), .int .i64 (bv : Int)] 31)) (W5.heap.size + 1 + 1) (some ⟨W5.heap.size + 1, 0, none⟩) 1 1 [unT ⟨bo, br, bv⟩] := by
            have := one_rt (W5.alloc (.cells #[.int .u32 (bo : Int), .int .u64 (br : Int), .int .i64 (bv : Int)] 31)) (unT ⟨bo, br, bv⟩) (unT_in hbI)
            rw [show (W5.alloc (.cells #[.int .u32 (bo : Int), .int .u64 (br : Int), .int .i64 (bv : Int)] 31)).heap.size = W5.heap.size + 1 by simp] at this
            exact this
          have B7 : Blk ((W5.alloc (.cells #[.int .u32 (bo : Int), .int .u64 (br : Int), .int .i64 (bv : Int)] 31)).alloc (.cells #[.int .u32 (bo : Int), .int .u64 (br : Int), .int .i64 (bv : Int)] 31)) g3 31 #[.int .u32 (ao : Int), .int .u64 (ar : Int), .int .i64 (av : Int)] := (b7.block g3 (Nat.lt_of_lt_of_le B5.lt b6.size)).trans ((b6.block g3 B5.lt).trans B5)
          have bw7 := (bw5.trans (b6.mono (Nat.le_of_lt B5.lt))).trans (b7.mono (Nat.le_trans (Nat.le_of_lt B5.lt) b6.size))
          have hs7 : g3 + 1 ≤ ((W5.alloc (.cells #[.int .u32 (bo : Int), .int .u64 (br : Int), .int .i64 (bv : Int)] 31)).alloc (.cells #[.int .u32 (bo : Int), .int .u64 (br : Int), .int .i64 (bv : Int)] 31)).heap.size := Nat.le_trans hsz5 (Nat.le_trans b6.size b7.size)
          have N7 : Blk ((W5.alloc (.cells #[.int .u32 (bo : Int), .int .u64 (br : Int), .int .i64 (bv : Int)] 31)).alloc (.cells #[.int .u32 (bo : Int), .int .u64 (br : Int), .int .i64 (bv : Int)] 31)) W5.heap.size 31 #[.int .u32 (bo : Int), .int .u64 (br : Int), .int .i64 (bv : Int)] := (Blk.new W5 _ _).alloc _
          have hne : ∀ k, (Value.slice Av m cv).ownBlock = some k → g3 + 1 ≤ k ∧ k < W5.heap.size := fun k hk => World.ownsRow.lt o5 k hk
          have HARM : Hid (∀ v9 w9, (OwnTp w9 (g3 + 1) v9 (((P ++ [(⟨ao, ar, av⟩ : Ln)]).map unT) ++ [unT ⟨bo, br, bv⟩]) ∧ ((W5.alloc (.cells #[.int .u32 (bo : Int), .int .u64 (br : Int), .int .i64 (bv : Int)] 31)).alloc (.cells #[.int .u32 (bo : Int), .int .u64 (br : Int), .int .i64 (bv : Int)] 31)).grownBy w9 (Value.slice Av m cv).ownBlock) → Blk w9 g3 31 #[.int .u32 (ao : Int), .int .u64 (ar : Int), .int .i64 (av : Int)] ∧ Blk w9 W5.heap.size 31 #[.int .u32 (bo : Int), .int .u64 (br : Int), .int .i64 (bv : Int)] ∧ Below g3 W1 w9 ∧ g3 + 1 ≤ w9.heap.size) := Lib.hid (by
            intro v9 w9 h9
            obtain ⟨_, hg⟩ := h9
            have hs8 := hs7
            refine ⟨(hg.block g3 B7.lt (fun e => by have := (hne g3 e.symm).1; omega)).trans B7, (hg.block W5.heap.size N7.lt (fun e => by have := (hne _ e.symm).2; omega)).trans N7, below_grown bw7 (by omega) hg (fun k hk => by have := (hne k hk).1; omega), Nat.le_trans hs7 hg.size⟩)
          clear N7 hne
          clear hn1 hab hbI b6 b7 o5 B5 bw5 B7 bw7 hg5 haI hsz5
          go_wp2_with (at_builtin; go_loud (with_reducible refine wpList_appendTp rfl (.tmp 69) (.tmp 71) rfl rfl (g3 + 1) (.slice Av m cv) ((P ++ [(⟨ao, ar, av⟩ : Ln)]).map unT) (by with_unfolding_all rfl) o7 _ _ 1 1 [unT ⟨bo, br, bv⟩] (by with_unfolding_all rfl) r7 (by rw [← HM.out]; omega) hs7 ?_); intro v9 w9 ha9; obtain ⟨B9, N9, bw9, hs9⟩ := HARM.out v9 w9 ha9; have n0 := N9.cell 0; have n1 := N9.cell 1; have n2 := N9.cell 2; have m0 := B9.cell 0; have m1 := B9.cell 1; have m2 := B9.cell 2; have f30 := B9.frozen 0; have f31 := B9.frozen 1; have f32 := B9.frozen 2; have H9 := Lib.hid (⟨ha9.1, B9, bw9, hs9⟩ : _ ∧ _ ∧ _ ∧ _); clear ha9 B9 N9 bw9 hs9 o7 r7 hs7 HARM)
          have HP : Hid (OwnTp (((w9.setCell ⟨g3, 0, none⟩ (.int .u32 (bo : Int))).setCell ⟨g3, 1, none⟩ (.int .u64 (br : Int))).setCell ⟨g3, 2, none⟩ (.int .i64 (bv : Int))) (g3 + 1) v9 (((P ++ [(⟨ao, ar, av⟩ : Ln)]) ++ [(⟨bo, br, bv⟩ : Ln)]).map unT) ∧ Below g3 W1 (((w9.setCell ⟨g3, 0, none⟩ (.int .u32 (bo : Int))).setCell ⟨g3, 1, none⟩ (.int .u64 (br : Int))).setCell ⟨g3, 2, none⟩ (.int .i64 (bv : Int))) ∧ Blk (((w9.setCell ⟨g3, 0, none⟩ (.int .u32 (bo : Int))).setCell ⟨g3, 1, none⟩ (.int .u64 (br : Int))).setCell ⟨g3, 2, none⟩ (.int .i64 (bv : Int))) g3 31 #[.int .u32 (bo : Int), .int .u64 (br : Int), .int .i64 (bv : Int)] ∧ g3 + 1 ≤ (((w9.setCell ⟨g3, 0, none⟩ (.int .u32 (bo : Int))).setCell ⟨g3, 1, none⟩ (.int .u64 (br : Int))).setCell ⟨g3, 2, none⟩ (.int .i64 (bv : Int))).heap.size) := Lib.hid (by
            have h1 := H9.out.1
            have h2 := H9.out.2.1
            have h3 := H9.out.2.2.1
            have h4 := H9.out.2.2.2
            rw [List.map_append]
            exact ⟨own_put3 h1 (by omega) _ _ _, below_put3 h3 (Nat.le_refl _) _ _ _, blk_put3 h2 _ _ _, by simpa [World.setCell] using h4⟩)
          have HZ : Hid (∃ (P : List Ln) (a : Ln), SoFar ls P a ∧ OwnTp (((w9.setCell ⟨g3, 0, none⟩ (.int .u32 (bo : Int))).setCell ⟨g3, 1, none⟩ (.int .u64 (br : Int))).setCell ⟨g3, 2, none⟩ (.int .i64 (bv : Int))) (g3 + 1) v9 ((P ++ [a]).map unT) ∧ Below g3 W1 (((w9.setCell ⟨g3, 0, none⟩ (.int .u32 (bo : Int))).setCell ⟨g3, 1, none⟩ (.int .u64 (br : Int))).setCell ⟨g3, 2, none⟩ (.int .i64 (bv : Int))) ∧ Blk (((w9.setCell ⟨g3, 0, none⟩ (.int .u32 (bo : Int))).setCell ⟨g3, 1, none⟩ (.int .u64 (br : Int))).setCell ⟨g3, 2, none⟩ (.int .i64 (bv : Int))) g3 31 #[.int .u32 (a.o : Int), .int .u64 (a.r : Int), .int .i64 (a.v : Int)] ∧ (∀ x ∈ P ++ [a], x.In) ∧ P.length ≤ a.v ∧ g3 + 1 ≤ (((w9.setCell ⟨g3, 0, none⟩ (.int .u32 (bo : Int))).setCell ⟨g3, 1, none⟩ (.int .u64 (br : Int))).setCell ⟨g3, 2, none⟩ (.int .i64 (bv : Int))).heap.size) := Lib.hid ⟨P ++ [⟨ao, ar, av⟩], ⟨bo, br, bv⟩, HNX.out.1, HP.out.1, HP.out.2.1, HP.out.2.2.1, (fun x hx => by
            rcases List.mem_append.1 hx with hx | hx
            · exact HPI.out.1 x hx
            · rw [List.mem_singleton] at hx
              rw [hx]; exact HBI.out), (by have h1 := HPI.out.2; have h2 := HNX.out.2; simp only at h1 ⊢; rw [List.length_append, List.length_singleton]; omega), HP.out.2.2.2⟩
          have HME : Hid ((((w9.setCell ⟨g3, 0, none⟩ (.int .u32 (bo : Int))).setCell ⟨g3, 1, none⟩ (.int .u64 (br : Int))).setCell ⟨g3, 2, none⟩ (.int .i64 (bv : Int))).cell? ⟨g3, 2, none⟩ = some (.int .i64 (bv : Int))) := Lib.hid (HP.out.2.2.1.cell 2)
          clear HP H9 m0 m1 m2 n0 n1 n2 f30 f31 f32
          go_roundw
          case rel =>
            obtain ⟨P9, a9, h9⟩ := HZ.out
            exact ⟨P9, a9, Lib.hid h9⟩
          case measure =>
            rw [HME.out, k3v]
            simp [intOf]
            omega
        · have HBS := Lib.hid (soFar_stop HSF.out hst)
          have HF := Lib.hid (⟨o5.on (belowA W5 (.cells #[.int .u32 0, .int .u64 0, .int .i64 0] 31)), bw5.trans ((belowA W5 (.cells #[.int .u32 0, .int .u64 0, .int .i64 0] 31)).mono (by omega))⟩ : _ ∧ _)
          have hgw : w.heap.size ≤ g3 := by have := HB1.out.size; have := HG.out; omega
          clear hst o5 bw5 B5 hsz5 k3v hg5 haI
          go_wp2_with fail
          go_ret
          exact ⟨_, _, rfl, by rw [← HLS.out]; exact HBS.out, ownTp_less HF.out.1 (by omega), HB1.out.trans (HF.out.2.mono hgw)⟩
end Go.Proofs.Ytfijlgkgbbemnaa
