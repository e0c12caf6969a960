/- Contract: (*limelightkeep.Tape).Ctl. -/
import Derived.Test.YtgjncaobcgjefaaCtU
import Derived.Test.YtgjncaobcgjefaaCtS
namespace Go.Proofs.Ytgjncaobcgjefaa
open Go.RowKit
set_option linter.unusedVariables false
set_option linter.unusedSimpArgs false
set_option maxRecDepth 20000

set_option maxHeartbeats 16000000 in
theorem tape_ctl (g : Nat) (w : World) (hT : TapeAt w g) : Calls Try.prog 7 #[.pointer (some ⟨g, 0, none⟩)] w (CtlOut g w) := by
  have hg := hT.lt
  have ba := below_alloc w (.cells #[.int .i64 0, .int .i64 0, .slice none 0 0, .int .i64 0, .int .i64 0, .int .i64 0, .int .i64 0, .int .i64 0] 25)
  have gR := Blk.new w 25 #[.int .i64 0, .int .i64 0, .slice none 0 0, .int .i64 0, .int .i64 0, .int .i64 0, .int .i64 0, .int .i64 0]
  have hTa := hT.on ba
  have hma := Moves.of hT ba
  go_enter Try.func7, Try.ntmps7
  go_wp2_with fail
  refine (next_any g 10 _ hTa (by unfold I64; omega)).mono ?_
  rintro e w1 ⟨k, rfl, hk0, hk1, hm1⟩
  have gR1 : Blk w1 w.heap.size 25 #[.int .i64 0, .int .i64 0, .slice none 0 0, .int .i64 0, .int .i64 0, .int .i64 0, .int .i64 0, .int .i64 0] := (hm1.other w.heap.size (by simp) (by omega)).trans gR
  have hm := hma.trans hm1
  have hsz := hm.below.size
  have hRl := gR1.lt
  clear gR hTa hma hm1 ba
  have hM0 : ∀ K : Int, CMem g w w.heap.size w1.heap.size #[.int .i64 K, .int .i64 0, .slice none 0 0, .int .i64 0, .int .i64 0, .int .i64 0, .int .i64 0, .int .i64 0] (w1.alloc (.cells #[.int .i64 K, .int .i64 0, .slice none 0 0, .int .i64 0, .int .i64 0, .int .i64 0, .int .i64 0, .int .i64 0] 25)) := fun K =>
    ⟨gR1.alloc _, Blk.new _ _ _, hm.and hg ((below_alloc w1 _).mono hsz), hg, Nat.le_refl _, hRl, by simp⟩
  clear gR1
  have hc : k = 0 ∨ k = 1 ∨ k = 2 ∨ k = 3 ∨ k = 4 ∨ k = 5 ∨ k = 6 ∨ k = 7 ∨ k = 8 ∨ k = 9 := by omega
  rcases hc with rfl | rfl | rfl | rfl | rfl | rfl | rfl | rfl | rfl | rfl
  all_goals clear hk0 hk1
  · have hM := hM0 1
    clear hM0
    obtain ⟨L, hL⟩ : ∃ L, L = w1.heap.size := ⟨_, rfl⟩
    rw [← hL] at hM
    have HL := Lib.hid hL
    go_upto_region 2 with (fail)
    rw [← hL]
    clear hL
    change Code.wp _ _ _ _ (w1.alloc (.cells #[.int .i64 1, .int .i64 0, .slice none 0 0, .int .i64 0, .int .i64 0, .int .i64 0, .int .i64 0, .int .i64 0] 25))
    generalize w1.alloc (.cells #[.int .i64 1, .int .i64 0, .slice none 0 0, .int .i64 0, .int .i64 0, .int .i64 0, .int .i64 0, .int .i64 0] 25) = W2 at hM ⊢
    have kL := (blk8 hM.blk).1
    have oL := hM.ord.2.2.2
    go_wp2_with fail
    refine (next_any g 1048576 _ hM.moves.tape (by unfold I64; omega)).mono ?_
    rintro e w3 ⟨a, rfl, a0, a1, hm3⟩
    have hM := hM.step hm3
    clear hm3
    have kL := blk8 hM.blk
    have fL := blk8f hM.blk
    have oL := hM.ord.2.2.2
    go_upto_region 20 with (fail)
    clear kL fL oL
    have hM := hM.set 1 (.int .i64 (1 + a))
    simp only [List.setIfInBounds_toArray, List.set_cons_succ, List.set_cons_zero] at hM
    generalize (w3.setCell ⟨L, 1, none⟩ (.int .i64 (1 + a))) = W9 at hM ⊢
    have kL := blk8 hM.blk
    have kR := blk8 hM.res
    have fR := blk8f hM.res
    have o := hM.ord
    have oR : w.heap.size < W9.heap.size := by omega
    go_wp2_with fail
    have hMh := Lib.hid hM
    clear kL kR fR hM
    refine bodyPost_ret (v := .agg #[.int .i64 1, .int .i64 (1 + a), .slice none 0 0, .int .i64 0, .int .i64 0, .int .i64 0, .int .i64 0, .int .i64 0]) ?_ rfl ?_
    · have gE := blk8 (set8_blk (v0 := .int .i64 1) (v1 := .int .i64 (1 + a)) (v2 := .slice none 0 0) (v3 := .int .i64 0) (v4 := .int .i64 0) (v5 := .int .i64 0) (v6 := .int .i64 0) (v7 := .int .i64 0) hMh.out.res)
      change (results _ _).run _ (set8 W9 w.heap.size (.int .i64 1) (.int .i64 (1 + a)) (.slice none 0 0) (.int .i64 0) (.int .i64 0) (.int .i64 0) (.int .i64 0) (.int .i64 0)) = .ok _ (set8 W9 w.heap.size (.int .i64 1) (.int .i64 (1 + a)) (.slice none 0 0) (.int .i64 0) (.int .i64 0) (.int .i64 0) (.int .i64 0) (.int .i64 0))
      generalize set8 W9 w.heap.size (.int .i64 1) (.int .i64 (1 + a)) (.slice none 0 0) (.int .i64 0) (.int .i64 0) (.int .i64 0) (.int .i64 0) (.int .i64 0) = WE at gE ⊢
      simp [results, Try.results7, go_sem, gE]
    · have hm := hMh.out.moves
      have hbR : Below w.heap.size W9 (set8 W9 w.heap.size (.int .i64 1) (.int .i64 (1 + a)) (.slice none 0 0) (.int .i64 0) (.int .i64 0) (.int .i64 0) (.int .i64 0) (.int .i64 0)) := set8_below (Nat.le_refl _)
      refine ⟨(⟨1, (1 + a), [], 0, 0, 0, 0, 0⟩ : Ctl), none, 0, rfl, ?_, ⟨RL.nil _ _ _ _, ?_, ?_, ?_, ?_, ?_, ?_, ?_⟩, ?_, hm.and o.1 hbR, fun _ h => by cases h⟩
      · refine ⟨⟨by show (1 : Int) ≤ 1; decide, by show (1 : Int) ≤ 10; decide⟩, ?_, ?_, ?_, ?_, ?_, ?_, ?_⟩ <;> first | (simp; done) | (simp; omega)
      all_goals first | (simp only [I64]; omega) | (simp only [I64]; decide) | (simp; done) | (simp; omega)
  · have hM := hM0 2
    clear hM0
    obtain ⟨L, hL⟩ : ∃ L, L = w1.heap.size := ⟨_, rfl⟩
    rw [← hL] at hM
    have HL := Lib.hid hL
    go_upto_region 2 with (fail)
    rw [← hL]
    clear hL
    change Code.wp _ _ _ _ (w1.alloc (.cells #[.int .i64 2, .int .i64 0, .slice none 0 0, .int .i64 0, .int .i64 0, .int .i64 0, .int .i64 0, .int .i64 0] 25))
    generalize w1.alloc (.cells #[.int .i64 2, .int .i64 0, .slice none 0 0, .int .i64 0, .int .i64 0, .int .i64 0, .int .i64 0, .int .i64 0] 25) = W2 at hM ⊢
    have kL := (blk8 hM.blk).1
    have oL := hM.ord.2.2.2
    go_upto_region 20 with (fail)
    obtain ⟨W9, rfl⟩ : ∃ W9, W9 = W2 := ⟨_, rfl⟩
    have kL := blk8 hM.blk
    have kR := blk8 hM.res
    have fR := blk8f hM.res
    have o := hM.ord
    have oR : w.heap.size < W9.heap.size := by omega
    go_wp2_with fail
    have hMh := Lib.hid hM
    clear kL kR fR hM
    refine bodyPost_ret (v := .agg #[.int .i64 2, .int .i64 0, .slice none 0 0, .int .i64 0, .int .i64 0, .int .i64 0, .int .i64 0, .int .i64 0]) ?_ rfl ?_
    · have gE := blk8 (set8_blk (v0 := .int .i64 2) (v1 := .int .i64 0) (v2 := .slice none 0 0) (v3 := .int .i64 0) (v4 := .int .i64 0) (v5 := .int .i64 0) (v6 := .int .i64 0) (v7 := .int .i64 0) hMh.out.res)
      change (results _ _).run _ (set8 W9 w.heap.size (.int .i64 2) (.int .i64 0) (.slice none 0 0) (.int .i64 0) (.int .i64 0) (.int .i64 0) (.int .i64 0) (.int .i64 0)) = .ok _ (set8 W9 w.heap.size (.int .i64 2) (.int .i64 0) (.slice none 0 0) (.int .i64 0) (.int .i64 0) (.int .i64 0) (.int .i64 0) (.int .i64 0))
      generalize set8 W9 w.heap.size (.int .i64 2) (.int .i64 0) (.slice none 0 0) (.int .i64 0) (.int .i64 0) (.int .i64 0) (.int .i64 0) (.int .i64 0) = WE at gE ⊢
      simp [results, Try.results7, go_sem, gE]
    · have hm := hMh.out.moves
      have hbR : Below w.heap.size W9 (set8 W9 w.heap.size (.int .i64 2) (.int .i64 0) (.slice none 0 0) (.int .i64 0) (.int .i64 0) (.int .i64 0) (.int .i64 0) (.int .i64 0)) := set8_below (Nat.le_refl _)
      refine ⟨(⟨2, 0, [], 0, 0, 0, 0, 0⟩ : Ctl), none, 0, rfl, ?_, ⟨RL.nil _ _ _ _, ?_, ?_, ?_, ?_, ?_, ?_, ?_⟩, ?_, hm.and o.1 hbR, fun _ h => by cases h⟩
      · refine ⟨⟨by show (1 : Int) ≤ 2; decide, by show (2 : Int) ≤ 10; decide⟩, ?_, ?_, ?_, ?_, ?_, ?_, ?_⟩ <;> first | (simp; done) | (simp; omega)
      all_goals first | (simp only [I64]; omega) | (simp only [I64]; decide) | (simp; done) | (simp; omega)
  · have hM := hM0 3
    clear hM0
    obtain ⟨L, hL⟩ : ∃ L, L = w1.heap.size := ⟨_, rfl⟩
    rw [← hL] at hM
    have HL := Lib.hid hL
    go_upto_region 2 with (fail)
    rw [← hL]
    clear hL
    change Code.wp _ _ _ _ (w1.alloc (.cells #[.int .i64 3, .int .i64 0, .slice none 0 0, .int .i64 0, .int .i64 0, .int .i64 0, .int .i64 0, .int .i64 0] 25))
    generalize w1.alloc (.cells #[.int .i64 3, .int .i64 0, .slice none 0 0, .int .i64 0, .int .i64 0, .int .i64 0, .int .i64 0, .int .i64 0] 25) = W2 at hM ⊢
    have kL := (blk8 hM.blk).1
    have oL := hM.ord.2.2.2
    go_wp2_with fail
    refine (next_any g 6 _ hM.moves.tape (by unfold I64; omega)).mono ?_
    rintro e w3 ⟨a, rfl, a0, a1, hm3⟩
    have hM := hM.step hm3
    clear hm3
    obtain ⟨P, rfl⟩ : ∃ P : Nat, a = (P : Int) := ⟨a.toNat, by omega⟩
    go_wp2_with fail
    refine (tape_layers g P _ hM.moves.tape (by omega)).mono ?_
    rintro e w4 ⟨A3, c3, l3, rfl, htl, h31, h33, r3, hm4, hf3⟩
    have o3 := hM.ord
    have hM := hM.step hm4
    clear hm4
    have kL := blk8 hM.blk
    have fL := blk8f hM.blk
    have oL := hM.ord.2.2.2
    go_upto_region 20 with (fail)
    clear kL fL oL
    have hM := hM.set 2 (.slice A3 l3.length c3)
    simp only [List.setIfInBounds_toArray, List.set_cons_succ, List.set_cons_zero] at hM
    have r3 := RL.far r3 ⟨L, 2, none⟩ (.slice A3 l3.length c3) (fun ad he => by have := hf3 ad he; simp only; omega)
    generalize (w4.setCell ⟨L, 2, none⟩ (.slice A3 l3.length c3)) = W9 at hM r3 ⊢
    have kL := blk8 hM.blk
    have kR := blk8 hM.res
    have fR := blk8f hM.res
    have o := hM.ord
    have oR : w.heap.size < W9.heap.size := by omega
    go_wp2_with fail
    have hMh := Lib.hid hM
    clear kL kR fR hM
    refine bodyPost_ret (v := .agg #[.int .i64 3, .int .i64 0, .slice A3 l3.length c3, .int .i64 0, .int .i64 0, .int .i64 0, .int .i64 0, .int .i64 0]) ?_ rfl ?_
    · have gE := blk8 (set8_blk (v0 := .int .i64 3) (v1 := .int .i64 0) (v2 := .slice A3 l3.length c3) (v3 := .int .i64 0) (v4 := .int .i64 0) (v5 := .int .i64 0) (v6 := .int .i64 0) (v7 := .int .i64 0) hMh.out.res)
      change (results _ _).run _ (set8 W9 w.heap.size (.int .i64 3) (.int .i64 0) (.slice A3 l3.length c3) (.int .i64 0) (.int .i64 0) (.int .i64 0) (.int .i64 0) (.int .i64 0)) = .ok _ (set8 W9 w.heap.size (.int .i64 3) (.int .i64 0) (.slice A3 l3.length c3) (.int .i64 0) (.int .i64 0) (.int .i64 0) (.int .i64 0) (.int .i64 0))
      generalize set8 W9 w.heap.size (.int .i64 3) (.int .i64 0) (.slice A3 l3.length c3) (.int .i64 0) (.int .i64 0) (.int .i64 0) (.int .i64 0) (.int .i64 0) = WE at gE ⊢
      simp [results, Try.results7, go_sem, gE]
    · have hm := hMh.out.moves
      have hbR : Below w.heap.size W9 (set8 W9 w.heap.size (.int .i64 3) (.int .i64 0) (.slice A3 l3.length c3) (.int .i64 0) (.int .i64 0) (.int .i64 0) (.int .i64 0) (.int .i64 0)) := set8_below (Nat.le_refl _)
      refine ⟨(⟨3, 0, l3, 0, 0, 0, 0, 0⟩ : Ctl), A3, c3, rfl, ?_, ⟨r3.set8 (fun ad he => by have := hf3 ad he; omega) _ _ _ _ _ _ _ _, ?_, ?_, ?_, ?_, ?_, ?_, ?_⟩, ?_, hm.and o.1 hbR, fun ad he => by have := hf3 ad he; omega⟩
      · refine ⟨⟨by show (1 : Int) ≤ 3; decide, by show (3 : Int) ≤ 10; decide⟩, ?_, ?_, ?_, ?_, ?_, ?_, ?_⟩ <;> first | (simp; done) | (simp; omega) | exact tapeL_right htl h31 h33
      all_goals first | (simp only [I64]; omega) | (simp only [I64]; decide) | (simp; done) | (simp; omega)
  · have hM := hM0 4
    clear hM0
    obtain ⟨L, hL⟩ : ∃ L, L = w1.heap.size := ⟨_, rfl⟩
    rw [← hL] at hM
    have HL := Lib.hid hL
    go_upto_region 2 with (fail)
    rw [← hL]
    clear hL
    change Code.wp _ _ _ _ (w1.alloc (.cells #[.int .i64 4, .int .i64 0, .slice none 0 0, .int .i64 0, .int .i64 0, .int .i64 0, .int .i64 0, .int .i64 0] 25))
    generalize w1.alloc (.cells #[.int .i64 4, .int .i64 0, .slice none 0 0, .int .i64 0, .int .i64 0, .int .i64 0, .int .i64 0, .int .i64 0] 25) = W2 at hM ⊢
    have kL := (blk8 hM.blk).1
    have oL := hM.ord.2.2.2
    go_wp2_with fail
    refine (next_any g 6 _ hM.moves.tape (by unfold I64; omega)).mono ?_
    rintro e w3 ⟨a, rfl, a0, a1, hm3⟩
    have hM := hM.step hm3
    clear hm3
    go_wp2_with fail
    refine (next_any g 1000 _ hM.moves.tape (by unfold I64; omega)).mono ?_
    rintro e w4 ⟨b, rfl, b0, b1, hm4⟩
    have hM := hM.step hm4
    clear hm4
    go_wp2_with fail
    refine (next_any g 4 _ hM.moves.tape (by unfold I64; omega)).mono ?_
    rintro e w5 ⟨d, rfl, d0, d1, hm5⟩
    have hM := hM.step hm5
    clear hm5
    have kL := blk8 hM.blk
    have fL := blk8f hM.blk
    have oL := hM.ord.2.2.2
    go_upto_region 20 with (fail)
    clear kL fL oL
    have hM := hM.set 3 (.int .i64 a)
    have hM := hM.set 4 (.int .i64 (1 + b))
    have hM := hM.set 5 (.int .i64 d)
    simp only [List.setIfInBounds_toArray, List.set_cons_succ, List.set_cons_zero] at hM
    generalize (((w5.setCell ⟨L, 3, none⟩ (.int .i64 a)).setCell ⟨L, 4, none⟩ (.int .i64 (1 + b))).setCell ⟨L, 5, none⟩ (.int .i64 d)) = W9 at hM ⊢
    have kL := blk8 hM.blk
    have kR := blk8 hM.res
    have fR := blk8f hM.res
    have o := hM.ord
    have oR : w.heap.size < W9.heap.size := by omega
    go_wp2_with fail
    have hMh := Lib.hid hM
    clear kL kR fR hM
    refine bodyPost_ret (v := .agg #[.int .i64 4, .int .i64 0, .slice none 0 0, .int .i64 a, .int .i64 (1 + b), .int .i64 d, .int .i64 0, .int .i64 0]) ?_ rfl ?_
    · have gE := blk8 (set8_blk (v0 := .int .i64 4) (v1 := .int .i64 0) (v2 := .slice none 0 0) (v3 := .int .i64 a) (v4 := .int .i64 (1 + b)) (v5 := .int .i64 d) (v6 := .int .i64 0) (v7 := .int .i64 0) hMh.out.res)
      change (results _ _).run _ (set8 W9 w.heap.size (.int .i64 4) (.int .i64 0) (.slice none 0 0) (.int .i64 a) (.int .i64 (1 + b)) (.int .i64 d) (.int .i64 0) (.int .i64 0)) = .ok _ (set8 W9 w.heap.size (.int .i64 4) (.int .i64 0) (.slice none 0 0) (.int .i64 a) (.int .i64 (1 + b)) (.int .i64 d) (.int .i64 0) (.int .i64 0))
      generalize set8 W9 w.heap.size (.int .i64 4) (.int .i64 0) (.slice none 0 0) (.int .i64 a) (.int .i64 (1 + b)) (.int .i64 d) (.int .i64 0) (.int .i64 0) = WE at gE ⊢
      simp [results, Try.results7, go_sem, gE]
    · have hm := hMh.out.moves
      have hbR : Below w.heap.size W9 (set8 W9 w.heap.size (.int .i64 4) (.int .i64 0) (.slice none 0 0) (.int .i64 a) (.int .i64 (1 + b)) (.int .i64 d) (.int .i64 0) (.int .i64 0)) := set8_below (Nat.le_refl _)
      refine ⟨(⟨4, 0, [], a, (1 + b), d, 0, 0⟩ : Ctl), none, 0, rfl, ?_, ⟨RL.nil _ _ _ _, ?_, ?_, ?_, ?_, ?_, ?_, ?_⟩, ?_, hm.and o.1 hbR, fun _ h => by cases h⟩
      · refine ⟨⟨by show (1 : Int) ≤ 4; decide, by show (4 : Int) ≤ 10; decide⟩, ?_, ?_, ?_, ?_, ?_, ?_, ?_⟩ <;> first | (simp; done) | (simp; omega)
      all_goals first | (simp only [I64]; omega) | (simp only [I64]; decide) | (simp; done) | (simp; omega)
  · have hM := hM0 5
    clear hM0
    obtain ⟨L, hL⟩ : ∃ L, L = w1.heap.size := ⟨_, rfl⟩
    rw [← hL] at hM
    have HL := Lib.hid hL
    go_upto_region 2 with (fail)
    rw [← hL]
    clear hL
    change Code.wp _ _ _ _ (w1.alloc (.cells #[.int .i64 5, .int .i64 0, .slice none 0 0, .int .i64 0, .int .i64 0, .int .i64 0, .int .i64 0, .int .i64 0] 25))
    generalize w1.alloc (.cells #[.int .i64 5, .int .i64 0, .slice none 0 0, .int .i64 0, .int .i64 0, .int .i64 0, .int .i64 0, .int .i64 0] 25) = W2 at hM ⊢
    have kL := (blk8 hM.blk).1
    have oL := hM.ord.2.2.2
    go_wp2_with fail
    refine (next_any g 6 _ hM.moves.tape (by unfold I64; omega)).mono ?_
    rintro e w3 ⟨a, rfl, a0, a1, hm3⟩
    have hM := hM.step hm3
    clear hm3
    have kL := blk8 hM.blk
    have fL := blk8f hM.blk
    have oL := hM.ord.2.2.2
    go_upto_region 20 with (fail)
    clear kL fL oL
    have hM := hM.set 3 (.int .i64 a)
    simp only [List.setIfInBounds_toArray, List.set_cons_succ, List.set_cons_zero] at hM
    generalize (w3.setCell ⟨L, 3, none⟩ (.int .i64 a)) = W9 at hM ⊢
    have kL := blk8 hM.blk
    have kR := blk8 hM.res
    have fR := blk8f hM.res
    have o := hM.ord
    have oR : w.heap.size < W9.heap.size := by omega
    go_wp2_with fail
    have hMh := Lib.hid hM
    clear kL kR fR hM
    refine bodyPost_ret (v := .agg #[.int .i64 5, .int .i64 0, .slice none 0 0, .int .i64 a, .int .i64 0, .int .i64 0, .int .i64 0, .int .i64 0]) ?_ rfl ?_
    · have gE := blk8 (set8_blk (v0 := .int .i64 5) (v1 := .int .i64 0) (v2 := .slice none 0 0) (v3 := .int .i64 a) (v4 := .int .i64 0) (v5 := .int .i64 0) (v6 := .int .i64 0) (v7 := .int .i64 0) hMh.out.res)
      change (results _ _).run _ (set8 W9 w.heap.size (.int .i64 5) (.int .i64 0) (.slice none 0 0) (.int .i64 a) (.int .i64 0) (.int .i64 0) (.int .i64 0) (.int .i64 0)) = .ok _ (set8 W9 w.heap.size (.int .i64 5) (.int .i64 0) (.slice none 0 0) (.int .i64 a) (.int .i64 0) (.int .i64 0) (.int .i64 0) (.int .i64 0))
      generalize set8 W9 w.heap.size (.int .i64 5) (.int .i64 0) (.slice none 0 0) (.int .i64 a) (.int .i64 0) (.int .i64 0) (.int .i64 0) (.int .i64 0) = WE at gE ⊢
      simp [results, Try.results7, go_sem, gE]
    · have hm := hMh.out.moves
      have hbR : Below w.heap.size W9 (set8 W9 w.heap.size (.int .i64 5) (.int .i64 0) (.slice none 0 0) (.int .i64 a) (.int .i64 0) (.int .i64 0) (.int .i64 0) (.int .i64 0)) := set8_below (Nat.le_refl _)
      refine ⟨(⟨5, 0, [], a, 0, 0, 0, 0⟩ : Ctl), none, 0, rfl, ?_, ⟨RL.nil _ _ _ _, ?_, ?_, ?_, ?_, ?_, ?_, ?_⟩, ?_, hm.and o.1 hbR, fun _ h => by cases h⟩
      · refine ⟨⟨by show (1 : Int) ≤ 5; decide, by show (5 : Int) ≤ 10; decide⟩, ?_, ?_, ?_, ?_, ?_, ?_, ?_⟩ <;> first | (simp; done) | (simp; omega)
      all_goals first | (simp only [I64]; omega) | (simp only [I64]; decide) | (simp; done) | (simp; omega)
  · have hM := hM0 6
    clear hM0
    obtain ⟨L, hL⟩ : ∃ L, L = w1.heap.size := ⟨_, rfl⟩
    rw [← hL] at hM
    have HL := Lib.hid hL
    go_upto_region 2 with (fail)
    rw [← hL]
    clear hL
    change Code.wp _ _ _ _ (w1.alloc (.cells #[.int .i64 6, .int .i64 0, .slice none 0 0, .int .i64 0, .int .i64 0, .int .i64 0, .int .i64 0, .int .i64 0] 25))
    generalize w1.alloc (.cells #[.int .i64 6, .int .i64 0, .slice none 0 0, .int .i64 0, .int .i64 0, .int .i64 0, .int .i64 0, .int .i64 0] 25) = W2 at hM ⊢
    have kL := (blk8 hM.blk).1
    have oL := hM.ord.2.2.2
    go_wp2_with fail
    refine (next_any g 6 _ hM.moves.tape (by unfold I64; omega)).mono ?_
    rintro e w3 ⟨a, rfl, a0, a1, hm3⟩
    have hM := hM.step hm3
    clear hm3
    go_wp2_with fail
    refine (next_any g 1000 _ hM.moves.tape (by unfold I64; omega)).mono ?_
    rintro e w4 ⟨b, rfl, b0, b1, hm4⟩
    have hM := hM.step hm4
    clear hm4
    have kL := blk8 hM.blk
    have fL := blk8f hM.blk
    have oL := hM.ord.2.2.2
    go_upto_region 20 with (fail)
    clear kL fL oL
    have hM := hM.set 3 (.int .i64 a)
    have hM := hM.set 4 (.int .i64 (1 + b))
    simp only [List.setIfInBounds_toArray, List.set_cons_succ, List.set_cons_zero] at hM
    generalize ((w4.setCell ⟨L, 3, none⟩ (.int .i64 a)).setCell ⟨L, 4, none⟩ (.int .i64 (1 + b))) = W9 at hM ⊢
    have kL := blk8 hM.blk
    have kR := blk8 hM.res
    have fR := blk8f hM.res
    have o := hM.ord
    have oR : w.heap.size < W9.heap.size := by omega
    go_wp2_with fail
    have hMh := Lib.hid hM
    clear kL kR fR hM
    refine bodyPost_ret (v := .agg #[.int .i64 6, .int .i64 0, .slice none 0 0, .int .i64 a, .int .i64 (1 + b), .int .i64 0, .int .i64 0, .int .i64 0]) ?_ rfl ?_
    · have gE := blk8 (set8_blk (v0 := .int .i64 6) (v1 := .int .i64 0) (v2 := .slice none 0 0) (v3 := .int .i64 a) (v4 := .int .i64 (1 + b)) (v5 := .int .i64 0) (v6 := .int .i64 0) (v7 := .int .i64 0) hMh.out.res)
      change (results _ _).run _ (set8 W9 w.heap.size (.int .i64 6) (.int .i64 0) (.slice none 0 0) (.int .i64 a) (.int .i64 (1 + b)) (.int .i64 0) (.int .i64 0) (.int .i64 0)) = .ok _ (set8 W9 w.heap.size (.int .i64 6) (.int .i64 0) (.slice none 0 0) (.int .i64 a) (.int .i64 (1 + b)) (.int .i64 0) (.int .i64 0) (.int .i64 0))
      generalize set8 W9 w.heap.size (.int .i64 6) (.int .i64 0) (.slice none 0 0) (.int .i64 a) (.int .i64 (1 + b)) (.int .i64 0) (.int .i64 0) (.int .i64 0) = WE at gE ⊢
      simp [results, Try.results7, go_sem, gE]
    · have hm := hMh.out.moves
      have hbR : Below w.heap.size W9 (set8 W9 w.heap.size (.int .i64 6) (.int .i64 0) (.slice none 0 0) (.int .i64 a) (.int .i64 (1 + b)) (.int .i64 0) (.int .i64 0) (.int .i64 0)) := set8_below (Nat.le_refl _)
      refine ⟨(⟨6, 0, [], a, (1 + b), 0, 0, 0⟩ : Ctl), none, 0, rfl, ?_, ⟨RL.nil _ _ _ _, ?_, ?_, ?_, ?_, ?_, ?_, ?_⟩, ?_, hm.and o.1 hbR, fun _ h => by cases h⟩
      · refine ⟨⟨by show (1 : Int) ≤ 6; decide, by show (6 : Int) ≤ 10; decide⟩, ?_, ?_, ?_, ?_, ?_, ?_, ?_⟩ <;> first | (simp; done) | (simp; omega)
      all_goals first | (simp only [I64]; omega) | (simp only [I64]; decide) | (simp; done) | (simp; omega)
  · have hM := hM0 7
    clear hM0
    obtain ⟨L, hL⟩ : ∃ L, L = w1.heap.size := ⟨_, rfl⟩
    rw [← hL] at hM
    have HL := Lib.hid hL
    go_upto_region 2 with (fail)
    rw [← hL]
    clear hL
    change Code.wp _ _ _ _ (w1.alloc (.cells #[.int .i64 7, .int .i64 0, .slice none 0 0, .int .i64 0, .int .i64 0, .int .i64 0, .int .i64 0, .int .i64 0] 25))
    generalize w1.alloc (.cells #[.int .i64 7, .int .i64 0, .slice none 0 0, .int .i64 0, .int .i64 0, .int .i64 0, .int .i64 0, .int .i64 0] 25) = W2 at hM ⊢
    have kL := (blk8 hM.blk).1
    have oL := hM.ord.2.2.2
    go_wp2_with fail
    refine (next_any g 6 _ hM.moves.tape (by unfold I64; omega)).mono ?_
    rintro e w3 ⟨a, rfl, a0, a1, hm3⟩
    have hM := hM.step hm3
    clear hm3
    go_wp2_with fail
    refine (next_any g 4 _ hM.moves.tape (by unfold I64; omega)).mono ?_
    rintro e w4 ⟨d, rfl, d0, d1, hm4⟩
    have hM := hM.step hm4
    clear hm4
    have kL := blk8 hM.blk
    have fL := blk8f hM.blk
    have oL := hM.ord.2.2.2
    go_upto_region 20 with (fail)
    clear kL fL oL
    have hM := hM.set 3 (.int .i64 a)
    have hM := hM.set 5 (.int .i64 d)
    simp only [List.setIfInBounds_toArray, List.set_cons_succ, List.set_cons_zero] at hM
    generalize ((w4.setCell ⟨L, 3, none⟩ (.int .i64 a)).setCell ⟨L, 5, none⟩ (.int .i64 d)) = W9 at hM ⊢
    have kL := blk8 hM.blk
    have kR := blk8 hM.res
    have fR := blk8f hM.res
    have o := hM.ord
    have oR : w.heap.size < W9.heap.size := by omega
    go_wp2_with fail
    have hMh := Lib.hid hM
    clear kL kR fR hM
    refine bodyPost_ret (v := .agg #[.int .i64 7, .int .i64 0, .slice none 0 0, .int .i64 a, .int .i64 0, .int .i64 d, .int .i64 0, .int .i64 0]) ?_ rfl ?_
    · have gE := blk8 (set8_blk (v0 := .int .i64 7) (v1 := .int .i64 0) (v2 := .slice none 0 0) (v3 := .int .i64 a) (v4 := .int .i64 0) (v5 := .int .i64 d) (v6 := .int .i64 0) (v7 := .int .i64 0) hMh.out.res)
      change (results _ _).run _ (set8 W9 w.heap.size (.int .i64 7) (.int .i64 0) (.slice none 0 0) (.int .i64 a) (.int .i64 0) (.int .i64 d) (.int .i64 0) (.int .i64 0)) = .ok _ (set8 W9 w.heap.size (.int .i64 7) (.int .i64 0) (.slice none 0 0) (.int .i64 a) (.int .i64 0) (.int .i64 d) (.int .i64 0) (.int .i64 0))
      generalize set8 W9 w.heap.size (.int .i64 7) (.int .i64 0) (.slice none 0 0) (.int .i64 a) (.int .i64 0) (.int .i64 d) (.int .i64 0) (.int .i64 0) = WE at gE ⊢
      simp [results, Try.results7, go_sem, gE]
    · have hm := hMh.out.moves
      have hbR : Below w.heap.size W9 (set8 W9 w.heap.size (.int .i64 7) (.int .i64 0) (.slice none 0 0) (.int .i64 a) (.int .i64 0) (.int .i64 d) (.int .i64 0) (.int .i64 0)) := set8_below (Nat.le_refl _)
      refine ⟨(⟨7, 0, [], a, 0, d, 0, 0⟩ : Ctl), none, 0, rfl, ?_, ⟨RL.nil _ _ _ _, ?_, ?_, ?_, ?_, ?_, ?_, ?_⟩, ?_, hm.and o.1 hbR, fun _ h => by cases h⟩
      · refine ⟨⟨by show (1 : Int) ≤ 7; decide, by show (7 : Int) ≤ 10; decide⟩, ?_, ?_, ?_, ?_, ?_, ?_, ?_⟩ <;> first | (simp; done) | (simp; omega)
      all_goals first | (simp only [I64]; omega) | (simp only [I64]; decide) | (simp; done) | (simp; omega)
  · have hM := hM0 8
    clear hM0
    obtain ⟨L, hL⟩ : ∃ L, L = w1.heap.size := ⟨_, rfl⟩
    rw [← hL] at hM
    have HL := Lib.hid hL
    go_upto_region 2 with (fail)
    rw [← hL]
    clear hL
    change Code.wp _ _ _ _ (w1.alloc (.cells #[.int .i64 8, .int .i64 0, .slice none 0 0, .int .i64 0, .int .i64 0, .int .i64 0, .int .i64 0, .int .i64 0] 25))
    generalize w1.alloc (.cells #[.int .i64 8, .int .i64 0, .slice none 0 0, .int .i64 0, .int .i64 0, .int .i64 0, .int .i64 0, .int .i64 0] 25) = W2 at hM ⊢
    have kL := (blk8 hM.blk).1
    have oL := hM.ord.2.2.2
    go_wp2_with fail
    refine (next_any g 3 _ hM.moves.tape (by unfold I64; omega)).mono ?_
    rintro e w3 ⟨a, rfl, a0, a1, hm3⟩
    have hM := hM.step hm3
    clear hm3
    have kL := blk8 hM.blk
    have fL := blk8f hM.blk
    have oL := hM.ord.2.2.2
    go_upto_region 20 with (fail)
    clear kL fL oL
    have hM := hM.set 6 (.int .i64 a)
    simp only [List.setIfInBounds_toArray, List.set_cons_succ, List.set_cons_zero] at hM
    generalize (w3.setCell ⟨L, 6, none⟩ (.int .i64 a)) = W9 at hM ⊢
    have kL := blk8 hM.blk
    have kR := blk8 hM.res
    have fR := blk8f hM.res
    have o := hM.ord
    have oR : w.heap.size < W9.heap.size := by omega
    go_wp2_with fail
    have hMh := Lib.hid hM
    clear kL kR fR hM
    refine bodyPost_ret (v := .agg #[.int .i64 8, .int .i64 0, .slice none 0 0, .int .i64 0, .int .i64 0, .int .i64 0, .int .i64 a, .int .i64 0]) ?_ rfl ?_
    · have gE := blk8 (set8_blk (v0 := .int .i64 8) (v1 := .int .i64 0) (v2 := .slice none 0 0) (v3 := .int .i64 0) (v4 := .int .i64 0) (v5 := .int .i64 0) (v6 := .int .i64 a) (v7 := .int .i64 0) hMh.out.res)
      change (results _ _).run _ (set8 W9 w.heap.size (.int .i64 8) (.int .i64 0) (.slice none 0 0) (.int .i64 0) (.int .i64 0) (.int .i64 0) (.int .i64 a) (.int .i64 0)) = .ok _ (set8 W9 w.heap.size (.int .i64 8) (.int .i64 0) (.slice none 0 0) (.int .i64 0) (.int .i64 0) (.int .i64 0) (.int .i64 a) (.int .i64 0))
      generalize set8 W9 w.heap.size (.int .i64 8) (.int .i64 0) (.slice none 0 0) (.int .i64 0) (.int .i64 0) (.int .i64 0) (.int .i64 a) (.int .i64 0) = WE at gE ⊢
      simp [results, Try.results7, go_sem, gE]
    · have hm := hMh.out.moves
      have hbR : Below w.heap.size W9 (set8 W9 w.heap.size (.int .i64 8) (.int .i64 0) (.slice none 0 0) (.int .i64 0) (.int .i64 0) (.int .i64 0) (.int .i64 a) (.int .i64 0)) := set8_below (Nat.le_refl _)
      refine ⟨(⟨8, 0, [], 0, 0, 0, a, 0⟩ : Ctl), none, 0, rfl, ?_, ⟨RL.nil _ _ _ _, ?_, ?_, ?_, ?_, ?_, ?_, ?_⟩, ?_, hm.and o.1 hbR, fun _ h => by cases h⟩
      · refine ⟨⟨by show (1 : Int) ≤ 8; decide, by show (8 : Int) ≤ 10; decide⟩, ?_, ?_, ?_, ?_, ?_, ?_, ?_⟩ <;> first | (simp; done) | (simp; omega)
      all_goals first | (simp only [I64]; omega) | (simp only [I64]; decide) | (simp; done) | (simp; omega)
  · have hM := hM0 9
    clear hM0
    obtain ⟨L, hL⟩ : ∃ L, L = w1.heap.size := ⟨_, rfl⟩
    rw [← hL] at hM
    have HL := Lib.hid hL
    go_upto_region 2 with (fail)
    rw [← hL]
    clear hL
    change Code.wp _ _ _ _ (w1.alloc (.cells #[.int .i64 9, .int .i64 0, .slice none 0 0, .int .i64 0, .int .i64 0, .int .i64 0, .int .i64 0, .int .i64 0] 25))
    generalize w1.alloc (.cells #[.int .i64 9, .int .i64 0, .slice none 0 0, .int .i64 0, .int .i64 0, .int .i64 0, .int .i64 0, .int .i64 0] 25) = W2 at hM ⊢
    have kL := (blk8 hM.blk).1
    have oL := hM.ord.2.2.2
    go_wp2_with fail
    refine (next_any g 3 _ hM.moves.tape (by unfold I64; omega)).mono ?_
    rintro e w3 ⟨a, rfl, a0, a1, hm3⟩
    have hM := hM.step hm3
    clear hm3
    have kL := blk8 hM.blk
    have fL := blk8f hM.blk
    have oL := hM.ord.2.2.2
    go_upto_region 20 with (fail)
    clear kL fL oL
    have hM := hM.set 6 (.int .i64 a)
    simp only [List.setIfInBounds_toArray, List.set_cons_succ, List.set_cons_zero] at hM
    generalize (w3.setCell ⟨L, 6, none⟩ (.int .i64 a)) = W9 at hM ⊢
    have kL := blk8 hM.blk
    have kR := blk8 hM.res
    have fR := blk8f hM.res
    have o := hM.ord
    have oR : w.heap.size < W9.heap.size := by omega
    go_wp2_with fail
    have hMh := Lib.hid hM
    clear kL kR fR hM
    refine bodyPost_ret (v := .agg #[.int .i64 9, .int .i64 0, .slice none 0 0, .int .i64 0, .int .i64 0, .int .i64 0, .int .i64 a, .int .i64 0]) ?_ rfl ?_
    · have gE := blk8 (set8_blk (v0 := .int .i64 9) (v1 := .int .i64 0) (v2 := .slice none 0 0) (v3 := .int .i64 0) (v4 := .int .i64 0) (v5 := .int .i64 0) (v6 := .int .i64 a) (v7 := .int .i64 0) hMh.out.res)
      change (results _ _).run _ (set8 W9 w.heap.size (.int .i64 9) (.int .i64 0) (.slice none 0 0) (.int .i64 0) (.int .i64 0) (.int .i64 0) (.int .i64 a) (.int .i64 0)) = .ok _ (set8 W9 w.heap.size (.int .i64 9) (.int .i64 0) (.slice none 0 0) (.int .i64 0) (.int .i64 0) (.int .i64 0) (.int .i64 a) (.int .i64 0))
      generalize set8 W9 w.heap.size (.int .i64 9) (.int .i64 0) (.slice none 0 0) (.int .i64 0) (.int .i64 0) (.int .i64 0) (.int .i64 a) (.int .i64 0) = WE at gE ⊢
      simp [results, Try.results7, go_sem, gE]
    · have hm := hMh.out.moves
      have hbR : Below w.heap.size W9 (set8 W9 w.heap.size (.int .i64 9) (.int .i64 0) (.slice none 0 0) (.int .i64 0) (.int .i64 0) (.int .i64 0) (.int .i64 a) (.int .i64 0)) := set8_below (Nat.le_refl _)
      refine ⟨(⟨9, 0, [], 0, 0, 0, a, 0⟩ : Ctl), none, 0, rfl, ?_, ⟨RL.nil _ _ _ _, ?_, ?_, ?_, ?_, ?_, ?_, ?_⟩, ?_, hm.and o.1 hbR, fun _ h => by cases h⟩
      · refine ⟨⟨by show (1 : Int) ≤ 9; decide, by show (9 : Int) ≤ 10; decide⟩, ?_, ?_, ?_, ?_, ?_, ?_, ?_⟩ <;> first | (simp; done) | (simp; omega)
      all_goals first | (simp only [I64]; omega) | (simp only [I64]; decide) | (simp; done) | (simp; omega)
  · have hM := hM0 10
    clear hM0
    obtain ⟨L, hL⟩ : ∃ L, L = w1.heap.size := ⟨_, rfl⟩
    rw [← hL] at hM
    have HL := Lib.hid hL
    go_upto_region 2 with (fail)
    rw [← hL]
    clear hL
    change Code.wp _ _ _ _ (w1.alloc (.cells #[.int .i64 10, .int .i64 0, .slice none 0 0, .int .i64 0, .int .i64 0, .int .i64 0, .int .i64 0, .int .i64 0] 25))
    generalize w1.alloc (.cells #[.int .i64 10, .int .i64 0, .slice none 0 0, .int .i64 0, .int .i64 0, .int .i64 0, .int .i64 0, .int .i64 0] 25) = W2 at hM ⊢
    have kL := (blk8 hM.blk).1
    have oL := hM.ord.2.2.2
    go_wp2_with fail
    refine (next_any g 256 _ hM.moves.tape (by unfold I64; omega)).mono ?_
    rintro e w3 ⟨a, rfl, a0, a1, hm3⟩
    have hM := hM.step hm3
    clear hm3
    have kL := blk8 hM.blk
    have fL := blk8f hM.blk
    have oL := hM.ord.2.2.2
    go_upto_region 20 with (fail)
    clear kL fL oL
    have hM := hM.set 7 (.int .i64 a)
    simp only [List.setIfInBounds_toArray, List.set_cons_succ, List.set_cons_zero] at hM
    generalize (w3.setCell ⟨L, 7, none⟩ (.int .i64 a)) = W9 at hM ⊢
    have kL := blk8 hM.blk
    have kR := blk8 hM.res
    have fR := blk8f hM.res
    have o := hM.ord
    have oR : w.heap.size < W9.heap.size := by omega
    go_wp2_with fail
    have hMh := Lib.hid hM
    clear kL kR fR hM
    refine bodyPost_ret (v := .agg #[.int .i64 10, .int .i64 0, .slice none 0 0, .int .i64 0, .int .i64 0, .int .i64 0, .int .i64 0, .int .i64 a]) ?_ rfl ?_
    · have gE := blk8 (set8_blk (v0 := .int .i64 10) (v1 := .int .i64 0) (v2 := .slice none 0 0) (v3 := .int .i64 0) (v4 := .int .i64 0) (v5 := .int .i64 0) (v6 := .int .i64 0) (v7 := .int .i64 a) hMh.out.res)
      change (results _ _).run _ (set8 W9 w.heap.size (.int .i64 10) (.int .i64 0) (.slice none 0 0) (.int .i64 0) (.int .i64 0) (.int .i64 0) (.int .i64 0) (.int .i64 a)) = .ok _ (set8 W9 w.heap.size (.int .i64 10) (.int .i64 0) (.slice none 0 0) (.int .i64 0) (.int .i64 0) (.int .i64 0) (.int .i64 0) (.int .i64 a))
      generalize set8 W9 w.heap.size (.int .i64 10) (.int .i64 0) (.slice none 0 0) (.int .i64 0) (.int .i64 0) (.int .i64 0) (.int .i64 0) (.int .i64 a) = WE at gE ⊢
      simp [results, Try.results7, go_sem, gE]
    · have hm := hMh.out.moves
      have hbR : Below w.heap.size W9 (set8 W9 w.heap.size (.int .i64 10) (.int .i64 0) (.slice none 0 0) (.int .i64 0) (.int .i64 0) (.int .i64 0) (.int .i64 0) (.int .i64 a)) := set8_below (Nat.le_refl _)
      refine ⟨(⟨10, 0, [], 0, 0, 0, 0, a⟩ : Ctl), none, 0, rfl, ?_, ⟨RL.nil _ _ _ _, ?_, ?_, ?_, ?_, ?_, ?_, ?_⟩, ?_, hm.and o.1 hbR, fun _ h => by cases h⟩
      · refine ⟨⟨by show (1 : Int) ≤ 10; decide, by show (10 : Int) ≤ 10; decide⟩, ?_, ?_, ?_, ?_, ?_, ?_, ?_⟩ <;> first | (simp; done) | (simp; omega)
      all_goals first | (simp only [I64]; omega) | (simp only [I64]; decide) | (simp; done) | (simp; omega)
end Go.Proofs.Ytgjncaobcgjefaa
