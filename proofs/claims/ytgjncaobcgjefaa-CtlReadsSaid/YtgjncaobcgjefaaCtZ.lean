/- Contracts: limelightref8.Right, for right messages of each kind. -/
import Derived.Test.YtgjncaobcgjefaaCtY
import Derived.Test.YtgjncaobcgjefaaSeq
namespace Go.Proofs.Ytgjncaobcgjefaa.RP
open Go.RowKit
set_option linter.unusedVariables false
set_option linter.unusedSimpArgs false
set_option maxRecDepth 20000

theorem still_ans {b r : Bool} {w w' : World} {e : Ending} (hb : b = r) (h : Still (.bool b) w e w') : e = .returned (.bool r) ∧ Below w.heap.size w w' := by
  subst hb
  obtain ⟨h1, rfl⟩ := h
  exact ⟨h1, Below.refl _ _⟩
set_option maxHeartbeats 8000000 in
theorem right8_1 (P : Nat) (lP : 1 ≤ P) (hP : P ≤ 1099511627776) (A : Option Addr) (c : Nat) (w : World) : Calls Try.prog 28 #[.agg #[.int .i64 1, .int .i64 (P : Int), .slice A 0 c, .int .i64 0, .int .i64 0, .int .i64 0, .int .i64 0, .int .i64 0]] w (Ans (.int .i64 0) w) := by
  have ic : inS8 (hasS 1) 99 = true := by decide
  have il : inS8 (hasS 1) 108 = false := by decide
  have ip : inS8 (hasS 1) 112 = false := by decide
  have ih : inS8 (hasS 1) 104 = false := by decide
  have ik : inS8 (hasS 1) 107 = false := by decide
  have iy : inS8 (hasS 1) 121 = false := by decide
  have ie : inS8 (hasS 1) 101 = false := by decide
  have kc := blk8 (Blk.new w 25 #[.int .i64 1, .int .i64 (P : Int), .slice A 0 c, .int .i64 0, .int .i64 0, .int .i64 0, .int .i64 0, .int .i64 0])
  have b0 := below_alloc w (.cells #[.int .i64 1, .int .i64 (P : Int), .slice A 0 c, .int .i64 0, .int .i64 0, .int .i64 0, .int .i64 0, .int .i64 0] 25)
  have hz : w.heap.size < (w.alloc (.cells #[.int .i64 1, .int .i64 (P : Int), .slice A 0 c, .int .i64 0, .int .i64 0, .int .i64 0, .int .i64 0, .int .i64 0] 25)).heap.size := by simp
  go_enter Try.func28, Try.ntmps28
  go_upto_region 1 with (fail)
  generalize w.alloc (.cells #[.int .i64 1, .int .i64 (P : Int), .slice A 0 c, .int .i64 0, .int .i64 0, .int .i64 0, .int .i64 0, .int .i64 0] 25) = W0 at kc b0 hz ⊢
  go_wp2_with fail
  refine (ref8_has 1 (by decide) (by decide) _).mono ?_
  rintro e W1 ⟨rfl, b1⟩
  have k0 := (b1.cell (p := ⟨w.heap.size, 0, none⟩) hz).trans kc.1
  have k1 := (b1.cell (p := ⟨w.heap.size, 1, none⟩) hz).trans kc.2.1
  have k2 := (b1.cell (p := ⟨w.heap.size, 2, none⟩) hz).trans kc.2.2.1
  have k3 := (b1.cell (p := ⟨w.heap.size, 3, none⟩) hz).trans kc.2.2.2.1
  have k4 := (b1.cell (p := ⟨w.heap.size, 4, none⟩) hz).trans kc.2.2.2.2.1
  have k5 := (b1.cell (p := ⟨w.heap.size, 5, none⟩) hz).trans kc.2.2.2.2.2.1
  have k6 := (b1.cell (p := ⟨w.heap.size, 6, none⟩) hz).trans kc.2.2.2.2.2.2.1
  have k7 := (b1.cell (p := ⟨w.heap.size, 7, none⟩) hz).trans kc.2.2.2.2.2.2.2
  have b2 := b0.trans (b1.mono b0.size)
  have hz := Nat.lt_of_lt_of_le hz b1.size
  clear kc b0 b1
  obtain ⟨L, hLL⟩ : ∃ L, L = w.heap.size := ⟨_, rfl⟩
  rw [← hLL] at k0 k1 k2 k3 k4 k5 k6 k7 hz b2
  have HLL := Lib.hid hLL
  go_upto_region 4 with (fail)
  rw [← hLL]
  clear hLL
  have q0 := Lib.hid k0
  have q1 := Lib.hid k1
  have q2 := Lib.hid k2
  have q3 := Lib.hid k3
  have q4 := Lib.hid k4
  have q5 := Lib.hid k5
  have q6 := Lib.hid k6
  have q7 := Lib.hid k7
  refine wp_region_seq [.val (.string (hasS 1)), .val (.bool true), .val (.bool false), .val (.bool false), .val (undef), .val (undef), .val (undef), .val (.bool false), .val (.bool false), .val (.string (hasS 1)), .val (.bool false), .val (.bool true), .val (.bool true), .val (.pointer (some ⟨L, 2, none⟩)), .val (.slice A 0 c), .val (.int .i64 (0 : Nat)), .val (.bool false), .val (.bool false), .val (.bool false), .val (.bool false), .val (.string (hasS 1)), .val (.bool false), .val (.bool true), .val (.bool true), .val (.pointer (some ⟨L, 3, none⟩)), .val (.int .i64 0), .val (.bool false), .val (.bool false), .val (.bool false), .val (.bool false), .val (.string (hasS 1)), .val (.bool false), .val (.bool true), .val (.bool true), .val (.pointer (some ⟨L, 4, none⟩)), .val (.int .i64 0), .val (.bool false), .val (.bool false), .val (.bool false), .val (.bool false), .val (.string (hasS 1)), .val (.bool false), .val (.bool true), .val (.bool true), .val (.pointer (some ⟨L, 5, none⟩)), .val (.int .i64 0), .val (.bool false), .val (.bool false), .val (.bool false), .val (.bool false), .val (.string (hasS 1)), .val (.bool false), .val (.bool true), .val (.bool true), .val (.pointer (some ⟨L, 6, none⟩)), .val (.int .i64 0), .val (.bool false), .val (.bool false), .val (.bool false), .val (.bool false), .val (.string (hasS 1)), .val (.bool false), .val (.bool true), .val (.bool true), .val (.pointer (some ⟨L, 7, none⟩)), .val (.int .i64 0), .val (.bool false), .val (.bool false), .val (.bool false)] (by kernel_rfl) (by kernel_rfl) (AllObl.all ⟨?_, ?_, ?_, ?_, ?_, ?_, ?_, ?_, ?_, ?_, ?_, ?_, ?_, ?_, ?_, ?_, ?_, ?_, ?_, ?_, ?_, ?_, ?_, ?_, ?_, ?_, ?_, ?_, ?_, ?_, ?_, ?_, ?_, ?_, ?_, ?_, ?_, ?_, ?_, ?_, ?_, ?_, ?_, ?_, ?_, ?_, ?_, ?_, ?_, ?_, ?_, ?_, ?_, ?_, ?_, ?_, ?_, ?_, ?_, ?_, ?_, ?_, ?_, ?_, ?_, ?_, ?_, ?_, ?_, trivial⟩) ?_
  · exact Obl.move trivial _ (Or.inl rfl) (by kernel_rfl)
  · exact Obl.call trivial 46 #[.tmp 15, .const (.int .u8 99)] _ rfl Try.f46 Try.func46 (by kernel_rfl) (by kernel_rfl) (fun ev w hb hx => by
      have e15 : ev (.tmp 15) = .string (hasS 1) := holds_val (hx (.tmp 15)) (by kernel_rfl)
      have k0 : ev (.const (.int .u8 99)) = (.int .u8 99) := holds_val (hx (.const (.int .u8 99))) (by kernel_rfl)
      simp only [List.map_toArray, List.map_cons, List.map_nil, e15, k0]
      exact (((ref8_in_c (hasS 1) w (hasS_size 1)).mono fun e w' h => still_ans ic h)).mono fun _ _ hh => Val.holds (by kernel_rfl) hh)
  · exact Obl.un trivial .not _ (.tmp 16) rfl (.bool true) (.bool false) (by kernel_rfl) (fun w => by simp [go_sem]) (by kernel_rfl)
  · exact Obl.move trivial _ (Or.inl rfl) (by kernel_rfl)
  · exact Obl.skip 3 true (.bool false) rfl (by kernel_rfl) (by kernel_rfl) (by kernel_rfl) (by kernel_rfl) (fun w => holds_undef (by kernel_rfl))
  · exact Obl.skip 3 true (.bool false) rfl (by kernel_rfl) (by kernel_rfl) (by kernel_rfl) (by kernel_rfl) (fun w => holds_undef (by kernel_rfl))
  · exact Obl.skip 3 true (.bool false) rfl (by kernel_rfl) (by kernel_rfl) (by kernel_rfl) (by kernel_rfl) (fun w => holds_undef (by kernel_rfl))
  · exact Obl.pick trivial _ _ _ rfl false (by kernel_rfl) (by kernel_rfl)
  · exact Obl.move trivial _ (Or.inl rfl) (by kernel_rfl)
  · exact Obl.move ⟨by kernel_rfl, by kernel_rfl, by kernel_rfl⟩ _ (Or.inl rfl) (by kernel_rfl)
  · exact Obl.call ⟨by kernel_rfl, by kernel_rfl, by kernel_rfl⟩ 46 #[.tmp 24, .const (.int .u8 108)] _ rfl Try.f46 Try.func46 (by kernel_rfl) (by kernel_rfl) (fun ev w hb hx => by
      have e24 : ev (.tmp 24) = .string (hasS 1) := holds_val (hx (.tmp 24)) (by kernel_rfl)
      have k0 : ev (.const (.int .u8 108)) = (.int .u8 108) := holds_val (hx (.const (.int .u8 108))) (by kernel_rfl)
      simp only [List.map_toArray, List.map_cons, List.map_nil, e24, k0]
      exact (((ref8_in_l (hasS 1) w (hasS_size 1)).mono fun e w' h => still_ans il h)).mono fun _ _ hh => Val.holds (by kernel_rfl) hh)
  · exact Obl.un ⟨by kernel_rfl, by kernel_rfl, by kernel_rfl⟩ .not _ (.tmp 25) rfl (.bool false) (.bool true) (by kernel_rfl) (fun w => by simp [go_sem]) (by kernel_rfl)
  · exact Obl.move ⟨by kernel_rfl, by kernel_rfl, by kernel_rfl⟩ _ (Or.inl rfl) (by kernel_rfl)
  · exact Obl.pure ⟨by kernel_rfl, by kernel_rfl, by kernel_rfl⟩ (.pointer (some ⟨L, 2, none⟩)) (by kernel_rfl) (fun ev w hb hx => by
      have e1 : ev (.tmp 1) = .pointer (some ⟨L, 0, none⟩) := holds_val (hx (.tmp 1)) (by kernel_rfl)
      simp [execOp, e1, go_sem])
  · exact Obl.pure ⟨by kernel_rfl, by kernel_rfl, by kernel_rfl⟩ (.slice A 0 c) (by kernel_rfl) (fun ev w hb hx => by
      have e28 : ev (.tmp 28) = .pointer (some ⟨L, 2, none⟩) := holds_val (hx (.tmp 28)) (by kernel_rfl)
      (have m2 := (hb.cell (p := ⟨L, 2, none⟩) hz).trans k2; simp [execOp, e28, go_sem, m2]))
  · exact Obl.lenV (x := (.tmp 29)) ⟨by kernel_rfl, by kernel_rfl, by kernel_rfl⟩ _ _ Try.underlying23 rfl (A) (0) (c) (by kernel_rfl) (by kernel_rfl)
  · exact Obl.bin ⟨by kernel_rfl, by kernel_rfl, by kernel_rfl⟩ .gtr _ (.tmp 30) (.const (.int .i64 0)) _ rfl (.int .i64 (0 : Nat)) (.int .i64 0) (.bool false) (by kernel_rfl) (by kernel_rfl) (fun w => by simp [eqGuard, go_sem]; try omega) (by kernel_rfl)
  · exact Obl.pick ⟨by kernel_rfl, by kernel_rfl, by kernel_rfl⟩ _ _ _ rfl true (by kernel_rfl) (by kernel_rfl)
  · exact Obl.pick trivial _ _ _ rfl false (by kernel_rfl) (by kernel_rfl)
  · exact Obl.move trivial _ (Or.inl rfl) (by kernel_rfl)
  · exact Obl.move ⟨by kernel_rfl, by kernel_rfl, by kernel_rfl⟩ _ (Or.inl rfl) (by kernel_rfl)
  · exact Obl.call ⟨by kernel_rfl, by kernel_rfl, by kernel_rfl⟩ 46 #[.tmp 35, .const (.int .u8 112)] _ rfl Try.f46 Try.func46 (by kernel_rfl) (by kernel_rfl) (fun ev w hb hx => by
      have e35 : ev (.tmp 35) = .string (hasS 1) := holds_val (hx (.tmp 35)) (by kernel_rfl)
      have k0 : ev (.const (.int .u8 112)) = (.int .u8 112) := holds_val (hx (.const (.int .u8 112))) (by kernel_rfl)
      simp only [List.map_toArray, List.map_cons, List.map_nil, e35, k0]
      exact (((ref8_in_p (hasS 1) w (hasS_size 1)).mono fun e w' h => still_ans ip h)).mono fun _ _ hh => Val.holds (by kernel_rfl) hh)
  · exact Obl.un ⟨by kernel_rfl, by kernel_rfl, by kernel_rfl⟩ .not _ (.tmp 36) rfl (.bool false) (.bool true) (by kernel_rfl) (fun w => by simp [go_sem]) (by kernel_rfl)
  · exact Obl.move ⟨by kernel_rfl, by kernel_rfl, by kernel_rfl⟩ _ (Or.inl rfl) (by kernel_rfl)
  · exact Obl.pure ⟨by kernel_rfl, by kernel_rfl, by kernel_rfl⟩ (.pointer (some ⟨L, 3, none⟩)) (by kernel_rfl) (fun ev w hb hx => by
      have e1 : ev (.tmp 1) = .pointer (some ⟨L, 0, none⟩) := holds_val (hx (.tmp 1)) (by kernel_rfl)
      simp [execOp, e1, go_sem])
  · exact Obl.pure ⟨by kernel_rfl, by kernel_rfl, by kernel_rfl⟩ (.int .i64 0) (by kernel_rfl) (fun ev w hb hx => by
      have e39 : ev (.tmp 39) = .pointer (some ⟨L, 3, none⟩) := holds_val (hx (.tmp 39)) (by kernel_rfl)
      (have m3 := (hb.cell (p := ⟨L, 3, none⟩) hz).trans k3; simp [execOp, e39, go_sem, m3]))
  · exact Obl.bin ⟨by kernel_rfl, by kernel_rfl, by kernel_rfl⟩ .neq _ (.tmp 40) (.const (.int .i64 0)) _ rfl (.int .i64 0) (.int .i64 0) (.bool false) (by kernel_rfl) (by kernel_rfl) (fun w => by simp [eqGuard, go_sem]; try omega) (by kernel_rfl)
  · exact Obl.pick ⟨by kernel_rfl, by kernel_rfl, by kernel_rfl⟩ _ _ _ rfl true (by kernel_rfl) (by kernel_rfl)
  · exact Obl.pick trivial _ _ _ rfl false (by kernel_rfl) (by kernel_rfl)
  · exact Obl.move trivial _ (Or.inl rfl) (by kernel_rfl)
  · exact Obl.move ⟨by kernel_rfl, by kernel_rfl, by kernel_rfl⟩ _ (Or.inl rfl) (by kernel_rfl)
  · exact Obl.call ⟨by kernel_rfl, by kernel_rfl, by kernel_rfl⟩ 46 #[.tmp 45, .const (.int .u8 104)] _ rfl Try.f46 Try.func46 (by kernel_rfl) (by kernel_rfl) (fun ev w hb hx => by
      have e45 : ev (.tmp 45) = .string (hasS 1) := holds_val (hx (.tmp 45)) (by kernel_rfl)
      have k0 : ev (.const (.int .u8 104)) = (.int .u8 104) := holds_val (hx (.const (.int .u8 104))) (by kernel_rfl)
      simp only [List.map_toArray, List.map_cons, List.map_nil, e45, k0]
      exact (((ref8_in_h (hasS 1) w (hasS_size 1)).mono fun e w' h => still_ans ih h)).mono fun _ _ hh => Val.holds (by kernel_rfl) hh)
  · exact Obl.un ⟨by kernel_rfl, by kernel_rfl, by kernel_rfl⟩ .not _ (.tmp 46) rfl (.bool false) (.bool true) (by kernel_rfl) (fun w => by simp [go_sem]) (by kernel_rfl)
  · exact Obl.move ⟨by kernel_rfl, by kernel_rfl, by kernel_rfl⟩ _ (Or.inl rfl) (by kernel_rfl)
  · exact Obl.pure ⟨by kernel_rfl, by kernel_rfl, by kernel_rfl⟩ (.pointer (some ⟨L, 4, none⟩)) (by kernel_rfl) (fun ev w hb hx => by
      have e1 : ev (.tmp 1) = .pointer (some ⟨L, 0, none⟩) := holds_val (hx (.tmp 1)) (by kernel_rfl)
      simp [execOp, e1, go_sem])
  · exact Obl.pure ⟨by kernel_rfl, by kernel_rfl, by kernel_rfl⟩ (.int .i64 0) (by kernel_rfl) (fun ev w hb hx => by
      have e49 : ev (.tmp 49) = .pointer (some ⟨L, 4, none⟩) := holds_val (hx (.tmp 49)) (by kernel_rfl)
      (have m4 := (hb.cell (p := ⟨L, 4, none⟩) hz).trans k4; simp [execOp, e49, go_sem, m4]))
  · exact Obl.bin ⟨by kernel_rfl, by kernel_rfl, by kernel_rfl⟩ .neq _ (.tmp 50) (.const (.int .i64 0)) _ rfl (.int .i64 0) (.int .i64 0) (.bool false) (by kernel_rfl) (by kernel_rfl) (fun w => by simp [eqGuard, go_sem]; try omega) (by kernel_rfl)
  · exact Obl.pick ⟨by kernel_rfl, by kernel_rfl, by kernel_rfl⟩ _ _ _ rfl true (by kernel_rfl) (by kernel_rfl)
  · exact Obl.pick trivial _ _ _ rfl false (by kernel_rfl) (by kernel_rfl)
  · exact Obl.move trivial _ (Or.inl rfl) (by kernel_rfl)
  · exact Obl.move ⟨by kernel_rfl, by kernel_rfl, by kernel_rfl⟩ _ (Or.inl rfl) (by kernel_rfl)
  · exact Obl.call ⟨by kernel_rfl, by kernel_rfl, by kernel_rfl⟩ 46 #[.tmp 55, .const (.int .u8 107)] _ rfl Try.f46 Try.func46 (by kernel_rfl) (by kernel_rfl) (fun ev w hb hx => by
      have e55 : ev (.tmp 55) = .string (hasS 1) := holds_val (hx (.tmp 55)) (by kernel_rfl)
      have k0 : ev (.const (.int .u8 107)) = (.int .u8 107) := holds_val (hx (.const (.int .u8 107))) (by kernel_rfl)
      simp only [List.map_toArray, List.map_cons, List.map_nil, e55, k0]
      exact (((ref8_in_k (hasS 1) w (hasS_size 1)).mono fun e w' h => still_ans ik h)).mono fun _ _ hh => Val.holds (by kernel_rfl) hh)
  · exact Obl.un ⟨by kernel_rfl, by kernel_rfl, by kernel_rfl⟩ .not _ (.tmp 56) rfl (.bool false) (.bool true) (by kernel_rfl) (fun w => by simp [go_sem]) (by kernel_rfl)
  · exact Obl.move ⟨by kernel_rfl, by kernel_rfl, by kernel_rfl⟩ _ (Or.inl rfl) (by kernel_rfl)
  · exact Obl.pure ⟨by kernel_rfl, by kernel_rfl, by kernel_rfl⟩ (.pointer (some ⟨L, 5, none⟩)) (by kernel_rfl) (fun ev w hb hx => by
      have e1 : ev (.tmp 1) = .pointer (some ⟨L, 0, none⟩) := holds_val (hx (.tmp 1)) (by kernel_rfl)
      simp [execOp, e1, go_sem])
  · exact Obl.pure ⟨by kernel_rfl, by kernel_rfl, by kernel_rfl⟩ (.int .i64 0) (by kernel_rfl) (fun ev w hb hx => by
      have e59 : ev (.tmp 59) = .pointer (some ⟨L, 5, none⟩) := holds_val (hx (.tmp 59)) (by kernel_rfl)
      (have m5 := (hb.cell (p := ⟨L, 5, none⟩) hz).trans k5; simp [execOp, e59, go_sem, m5]))
  · exact Obl.bin ⟨by kernel_rfl, by kernel_rfl, by kernel_rfl⟩ .neq _ (.tmp 60) (.const (.int .i64 0)) _ rfl (.int .i64 0) (.int .i64 0) (.bool false) (by kernel_rfl) (by kernel_rfl) (fun w => by simp [eqGuard, go_sem]; try omega) (by kernel_rfl)
  · exact Obl.pick ⟨by kernel_rfl, by kernel_rfl, by kernel_rfl⟩ _ _ _ rfl true (by kernel_rfl) (by kernel_rfl)
  · exact Obl.pick trivial _ _ _ rfl false (by kernel_rfl) (by kernel_rfl)
  · exact Obl.move trivial _ (Or.inl rfl) (by kernel_rfl)
  · exact Obl.move ⟨by kernel_rfl, by kernel_rfl, by kernel_rfl⟩ _ (Or.inl rfl) (by kernel_rfl)
  · exact Obl.call ⟨by kernel_rfl, by kernel_rfl, by kernel_rfl⟩ 46 #[.tmp 65, .const (.int .u8 121)] _ rfl Try.f46 Try.func46 (by kernel_rfl) (by kernel_rfl) (fun ev w hb hx => by
      have e65 : ev (.tmp 65) = .string (hasS 1) := holds_val (hx (.tmp 65)) (by kernel_rfl)
      have k0 : ev (.const (.int .u8 121)) = (.int .u8 121) := holds_val (hx (.const (.int .u8 121))) (by kernel_rfl)
      simp only [List.map_toArray, List.map_cons, List.map_nil, e65, k0]
      exact (((ref8_in_y (hasS 1) w (hasS_size 1)).mono fun e w' h => still_ans iy h)).mono fun _ _ hh => Val.holds (by kernel_rfl) hh)
  · exact Obl.un ⟨by kernel_rfl, by kernel_rfl, by kernel_rfl⟩ .not _ (.tmp 66) rfl (.bool false) (.bool true) (by kernel_rfl) (fun w => by simp [go_sem]) (by kernel_rfl)
  · exact Obl.move ⟨by kernel_rfl, by kernel_rfl, by kernel_rfl⟩ _ (Or.inl rfl) (by kernel_rfl)
  · exact Obl.pure ⟨by kernel_rfl, by kernel_rfl, by kernel_rfl⟩ (.pointer (some ⟨L, 6, none⟩)) (by kernel_rfl) (fun ev w hb hx => by
      have e1 : ev (.tmp 1) = .pointer (some ⟨L, 0, none⟩) := holds_val (hx (.tmp 1)) (by kernel_rfl)
      simp [execOp, e1, go_sem])
  · exact Obl.pure ⟨by kernel_rfl, by kernel_rfl, by kernel_rfl⟩ (.int .i64 0) (by kernel_rfl) (fun ev w hb hx => by
      have e69 : ev (.tmp 69) = .pointer (some ⟨L, 6, none⟩) := holds_val (hx (.tmp 69)) (by kernel_rfl)
      (have m6 := (hb.cell (p := ⟨L, 6, none⟩) hz).trans k6; simp [execOp, e69, go_sem, m6]))
  · exact Obl.bin ⟨by kernel_rfl, by kernel_rfl, by kernel_rfl⟩ .neq _ (.tmp 70) (.const (.int .i64 0)) _ rfl (.int .i64 0) (.int .i64 0) (.bool false) (by kernel_rfl) (by kernel_rfl) (fun w => by simp [eqGuard, go_sem]; try omega) (by kernel_rfl)
  · exact Obl.pick ⟨by kernel_rfl, by kernel_rfl, by kernel_rfl⟩ _ _ _ rfl true (by kernel_rfl) (by kernel_rfl)
  · exact Obl.pick trivial _ _ _ rfl false (by kernel_rfl) (by kernel_rfl)
  · exact Obl.move trivial _ (Or.inl rfl) (by kernel_rfl)
  · exact Obl.move ⟨by kernel_rfl, by kernel_rfl, by kernel_rfl⟩ _ (Or.inl rfl) (by kernel_rfl)
  · exact Obl.call ⟨by kernel_rfl, by kernel_rfl, by kernel_rfl⟩ 46 #[.tmp 75, .const (.int .u8 101)] _ rfl Try.f46 Try.func46 (by kernel_rfl) (by kernel_rfl) (fun ev w hb hx => by
      have e75 : ev (.tmp 75) = .string (hasS 1) := holds_val (hx (.tmp 75)) (by kernel_rfl)
      have k0 : ev (.const (.int .u8 101)) = (.int .u8 101) := holds_val (hx (.const (.int .u8 101))) (by kernel_rfl)
      simp only [List.map_toArray, List.map_cons, List.map_nil, e75, k0]
      exact (((ref8_in_e (hasS 1) w (hasS_size 1)).mono fun e w' h => still_ans ie h)).mono fun _ _ hh => Val.holds (by kernel_rfl) hh)
  · exact Obl.un ⟨by kernel_rfl, by kernel_rfl, by kernel_rfl⟩ .not _ (.tmp 76) rfl (.bool false) (.bool true) (by kernel_rfl) (fun w => by simp [go_sem]) (by kernel_rfl)
  · exact Obl.move ⟨by kernel_rfl, by kernel_rfl, by kernel_rfl⟩ _ (Or.inl rfl) (by kernel_rfl)
  · exact Obl.pure ⟨by kernel_rfl, by kernel_rfl, by kernel_rfl⟩ (.pointer (some ⟨L, 7, none⟩)) (by kernel_rfl) (fun ev w hb hx => by
      have e1 : ev (.tmp 1) = .pointer (some ⟨L, 0, none⟩) := holds_val (hx (.tmp 1)) (by kernel_rfl)
      simp [execOp, e1, go_sem])
  · exact Obl.pure ⟨by kernel_rfl, by kernel_rfl, by kernel_rfl⟩ (.int .i64 0) (by kernel_rfl) (fun ev w hb hx => by
      have e79 : ev (.tmp 79) = .pointer (some ⟨L, 7, none⟩) := holds_val (hx (.tmp 79)) (by kernel_rfl)
      (have m7 := (hb.cell (p := ⟨L, 7, none⟩) hz).trans k7; simp [execOp, e79, go_sem, m7]))
  · exact Obl.bin ⟨by kernel_rfl, by kernel_rfl, by kernel_rfl⟩ .neq _ (.tmp 80) (.const (.int .i64 0)) _ rfl (.int .i64 0) (.int .i64 0) (.bool false) (by kernel_rfl) (by kernel_rfl) (fun w => by simp [eqGuard, go_sem]; try omega) (by kernel_rfl)
  · exact Obl.pick ⟨by kernel_rfl, by kernel_rfl, by kernel_rfl⟩ _ _ _ rfl true (by kernel_rfl) (by kernel_rfl)
  · exact Obl.pick trivial _ _ _ rfl false (by kernel_rfl) (by kernel_rfl)
  intro a WR hb hsz hdf hold hv
  have ha := act_puts [15, 16, 17, 18, 19, 20, 21, 22, 23, 24, 25, 26, 27, 28, 29, 30, 31, 32, 33, 34, 35, 36, 37, 38, 39, 40, 41, 42, 43, 44, 45, 46, 47, 48, 49, 50, 51, 52, 53, 54, 55, 56, 57, 58, 59, 60, 61, 62, 63, 64, 65, 66, 67, 68, 69, 70, 71, 72, 73, 74, 75, 76, 77, 78, 79, 80, 81, 82, 83] (by kernel_rfl) hsz hdf hold
  simp only [putAll] at ha
  have z83 : a.tmps.getD 83 undef = .bool false := holds_val (hv 68 83 (by kernel_rfl)) (by kernel_rfl)
  rw [z83] at ha
  generalize a.tmps.getD 15 undef = x15 at ha
  generalize a.tmps.getD 16 undef = x16 at ha
  generalize a.tmps.getD 17 undef = x17 at ha
  generalize a.tmps.getD 18 undef = x18 at ha
  generalize a.tmps.getD 19 undef = x19 at ha
  generalize a.tmps.getD 20 undef = x20 at ha
  generalize a.tmps.getD 21 undef = x21 at ha
  generalize a.tmps.getD 22 undef = x22 at ha
  generalize a.tmps.getD 23 undef = x23 at ha
  generalize a.tmps.getD 24 undef = x24 at ha
  generalize a.tmps.getD 25 undef = x25 at ha
  generalize a.tmps.getD 26 undef = x26 at ha
  generalize a.tmps.getD 27 undef = x27 at ha
  generalize a.tmps.getD 28 undef = x28 at ha
  generalize a.tmps.getD 29 undef = x29 at ha
  generalize a.tmps.getD 30 undef = x30 at ha
  generalize a.tmps.getD 31 undef = x31 at ha
  generalize a.tmps.getD 32 undef = x32 at ha
  generalize a.tmps.getD 33 undef = x33 at ha
  generalize a.tmps.getD 34 undef = x34 at ha
  generalize a.tmps.getD 35 undef = x35 at ha
  generalize a.tmps.getD 36 undef = x36 at ha
  generalize a.tmps.getD 37 undef = x37 at ha
  generalize a.tmps.getD 38 undef = x38 at ha
  generalize a.tmps.getD 39 undef = x39 at ha
  generalize a.tmps.getD 40 undef = x40 at ha
  generalize a.tmps.getD 41 undef = x41 at ha
  generalize a.tmps.getD 42 undef = x42 at ha
  generalize a.tmps.getD 43 undef = x43 at ha
  generalize a.tmps.getD 44 undef = x44 at ha
  generalize a.tmps.getD 45 undef = x45 at ha
  generalize a.tmps.getD 46 undef = x46 at ha
  generalize a.tmps.getD 47 undef = x47 at ha
  generalize a.tmps.getD 48 undef = x48 at ha
  generalize a.tmps.getD 49 undef = x49 at ha
  generalize a.tmps.getD 50 undef = x50 at ha
  generalize a.tmps.getD 51 undef = x51 at ha
  generalize a.tmps.getD 52 undef = x52 at ha
  generalize a.tmps.getD 53 undef = x53 at ha
  generalize a.tmps.getD 54 undef = x54 at ha
  generalize a.tmps.getD 55 undef = x55 at ha
  generalize a.tmps.getD 56 undef = x56 at ha
  generalize a.tmps.getD 57 undef = x57 at ha
  generalize a.tmps.getD 58 undef = x58 at ha
  generalize a.tmps.getD 59 undef = x59 at ha
  generalize a.tmps.getD 60 undef = x60 at ha
  generalize a.tmps.getD 61 undef = x61 at ha
  generalize a.tmps.getD 62 undef = x62 at ha
  generalize a.tmps.getD 63 undef = x63 at ha
  generalize a.tmps.getD 64 undef = x64 at ha
  generalize a.tmps.getD 65 undef = x65 at ha
  generalize a.tmps.getD 66 undef = x66 at ha
  generalize a.tmps.getD 67 undef = x67 at ha
  generalize a.tmps.getD 68 undef = x68 at ha
  generalize a.tmps.getD 69 undef = x69 at ha
  generalize a.tmps.getD 70 undef = x70 at ha
  generalize a.tmps.getD 71 undef = x71 at ha
  generalize a.tmps.getD 72 undef = x72 at ha
  generalize a.tmps.getD 73 undef = x73 at ha
  generalize a.tmps.getD 74 undef = x74 at ha
  generalize a.tmps.getD 75 undef = x75 at ha
  generalize a.tmps.getD 76 undef = x76 at ha
  generalize a.tmps.getD 77 undef = x77 at ha
  generalize a.tmps.getD 78 undef = x78 at ha
  generalize a.tmps.getD 79 undef = x79 at ha
  generalize a.tmps.getD 80 undef = x80 at ha
  generalize a.tmps.getD 81 undef = x81 at ha
  generalize a.tmps.getD 82 undef = x82 at ha
  clear hv hold hsz hdf z83
  subst ha
  simp only [Act.put, List.setIfInBounds_toArray, List.set_cons_succ, List.set_cons_zero]
  have k0 := (hb.cell (p := ⟨L, 0, none⟩) hz).trans q0.out
  have k1 := (hb.cell (p := ⟨L, 1, none⟩) hz).trans q1.out
  have k2 := (hb.cell (p := ⟨L, 2, none⟩) hz).trans q2.out
  have k3 := (hb.cell (p := ⟨L, 3, none⟩) hz).trans q3.out
  have k4 := (hb.cell (p := ⟨L, 4, none⟩) hz).trans q4.out
  have k5 := (hb.cell (p := ⟨L, 5, none⟩) hz).trans q5.out
  have k6 := (hb.cell (p := ⟨L, 6, none⟩) hz).trans q6.out
  have k7 := (hb.cell (p := ⟨L, 7, none⟩) hz).trans q7.out
  have hz := Nat.lt_of_lt_of_le hz hb.size
  have b2 := b2.trans (hb.mono (by have := HLL.out; omega))
  clear hb
  go_upto_region 6 with (fail)
  refine wp_region_seq [.val (.string (hasS 1)), .val (.bool true), .val (.bool true), .val (.pointer (some ⟨L, 1, none⟩)), .val (.int .i64 (P : Int)), .val (.bool false), .val (.bool false), .val (.pointer (some ⟨L, 1, none⟩)), .val (.int .i64 (P : Int)), .val (.bool false), .val (.bool false), .val (.bool false), .val (.bool false), .val (.pointer (some ⟨L, 3, none⟩)), .val (.int .i64 0), .val (.bool false), .val (.bool false), .val (.bool false), .val (.pointer (some ⟨L, 3, none⟩)), .val (.int .i64 0), .val (.bool false), .val (.bool false), .val (.bool false), .val (.string (hasS 1)), .val (.bool false), .val (.bool false), .val (undef), .val (undef), .val (undef), .val (undef), .val (undef), .val (undef), .val (undef), .val (undef), .val (.bool false), .val (.bool false), .val (.bool false), .val (.pointer (some ⟨L, 5, none⟩)), .val (.int .i64 0), .val (.bool false), .val (.bool false), .val (.bool false), .val (.pointer (some ⟨L, 5, none⟩)), .val (.int .i64 0), .val (.bool false), .val (.bool false), .val (.bool false), .val (.pointer (some ⟨L, 6, none⟩)), .val (.int .i64 0), .val (.bool false), .val (.bool false), .val (.bool false), .val (.pointer (some ⟨L, 6, none⟩)), .val (.int .i64 0), .val (.bool false), .val (.bool false), .val (.bool false), .val (.pointer (some ⟨L, 7, none⟩)), .val (.int .i64 0), .val (.bool false), .val (.bool false), .val (.bool false), .val (.pointer (some ⟨L, 7, none⟩)), .val (.int .i64 0), .val (.bool false), .val (.bool false)] (by kernel_rfl) (by kernel_rfl) (AllObl.all ⟨?_, ?_, ?_, ?_, ?_, ?_, ?_, ?_, ?_, ?_, ?_, ?_, ?_, ?_, ?_, ?_, ?_, ?_, ?_, ?_, ?_, ?_, ?_, ?_, ?_, ?_, ?_, ?_, ?_, ?_, ?_, ?_, ?_, ?_, ?_, ?_, ?_, ?_, ?_, ?_, ?_, ?_, ?_, ?_, ?_, ?_, ?_, ?_, ?_, ?_, ?_, ?_, ?_, ?_, ?_, ?_, ?_, ?_, ?_, ?_, ?_, ?_, ?_, ?_, ?_, ?_, trivial⟩) ?_
  · exact Obl.move trivial _ (Or.inl rfl) (by kernel_rfl)
  · exact Obl.call trivial 46 #[.tmp 84, .const (.int .u8 99)] _ rfl Try.f46 Try.func46 (by kernel_rfl) (by kernel_rfl) (fun ev w hb hx => by
      have e84 : ev (.tmp 84) = .string (hasS 1) := holds_val (hx (.tmp 84)) (by kernel_rfl)
      have k0 : ev (.const (.int .u8 99)) = (.int .u8 99) := holds_val (hx (.const (.int .u8 99))) (by kernel_rfl)
      simp only [List.map_toArray, List.map_cons, List.map_nil, e84, k0]
      exact (((ref8_in_c (hasS 1) w (hasS_size 1)).mono fun e w' h => still_ans ic h)).mono fun _ _ hh => Val.holds (by kernel_rfl) hh)
  · exact Obl.move trivial _ (Or.inl rfl) (by kernel_rfl)
  · exact Obl.pure ⟨by kernel_rfl, by kernel_rfl, by kernel_rfl⟩ (.pointer (some ⟨L, 1, none⟩)) (by kernel_rfl) (fun ev w hb hx => by
      have e1 : ev (.tmp 1) = .pointer (some ⟨L, 0, none⟩) := holds_val (hx (.tmp 1)) (by kernel_rfl)
      simp [execOp, e1, go_sem])
  · exact Obl.pure ⟨by kernel_rfl, by kernel_rfl, by kernel_rfl⟩ (.int .i64 (P : Int)) (by kernel_rfl) (fun ev w hb hx => by
      have e87 : ev (.tmp 87) = .pointer (some ⟨L, 1, none⟩) := holds_val (hx (.tmp 87)) (by kernel_rfl)
      (have m1 := (hb.cell (p := ⟨L, 1, none⟩) hz).trans k1; simp [execOp, e87, go_sem, m1]))
  · exact Obl.bin ⟨by kernel_rfl, by kernel_rfl, by kernel_rfl⟩ .lss _ (.tmp 88) (.const (.int .i64 1)) _ rfl (.int .i64 (P : Int)) (.int .i64 1) (.bool false) (by kernel_rfl) (by kernel_rfl) (fun w => by simp [eqGuard, go_sem]; try omega) (by kernel_rfl)
  · exact Obl.move ⟨by kernel_rfl, by kernel_rfl, by kernel_rfl⟩ _ (Or.inl rfl) (by kernel_rfl)
  · exact Obl.pure ⟨by kernel_rfl, by kernel_rfl, by kernel_rfl⟩ (.pointer (some ⟨L, 1, none⟩)) (by kernel_rfl) (fun ev w hb hx => by
      have e1 : ev (.tmp 1) = .pointer (some ⟨L, 0, none⟩) := holds_val (hx (.tmp 1)) (by kernel_rfl)
      simp [execOp, e1, go_sem])
  · exact Obl.pure ⟨by kernel_rfl, by kernel_rfl, by kernel_rfl⟩ (.int .i64 (P : Int)) (by kernel_rfl) (fun ev w hb hx => by
      have e91 : ev (.tmp 91) = .pointer (some ⟨L, 1, none⟩) := holds_val (hx (.tmp 91)) (by kernel_rfl)
      (have m1 := (hb.cell (p := ⟨L, 1, none⟩) hz).trans k1; simp [execOp, e91, go_sem, m1]))
  · exact Obl.bin ⟨by kernel_rfl, by kernel_rfl, by kernel_rfl⟩ .gtr _ (.tmp 92) (.const (.int .i64 1099511627776)) _ rfl (.int .i64 (P : Int)) (.int .i64 1099511627776) (.bool false) (by kernel_rfl) (by kernel_rfl) (fun w => by simp [eqGuard, go_sem]; try omega) (by kernel_rfl)
  · exact Obl.pick ⟨by kernel_rfl, by kernel_rfl, by kernel_rfl⟩ _ _ _ rfl false (by kernel_rfl) (by kernel_rfl)
  · exact Obl.pick trivial _ _ _ rfl true (by kernel_rfl) (by kernel_rfl)
  · exact Obl.move trivial _ (Or.inl rfl) (by kernel_rfl)
  · exact Obl.pure ⟨by kernel_rfl, by kernel_rfl, by kernel_rfl⟩ (.pointer (some ⟨L, 3, none⟩)) (by kernel_rfl) (fun ev w hb hx => by
      have e1 : ev (.tmp 1) = .pointer (some ⟨L, 0, none⟩) := holds_val (hx (.tmp 1)) (by kernel_rfl)
      simp [execOp, e1, go_sem])
  · exact Obl.pure ⟨by kernel_rfl, by kernel_rfl, by kernel_rfl⟩ (.int .i64 0) (by kernel_rfl) (fun ev w hb hx => by
      have e97 : ev (.tmp 97) = .pointer (some ⟨L, 3, none⟩) := holds_val (hx (.tmp 97)) (by kernel_rfl)
      (have m3 := (hb.cell (p := ⟨L, 3, none⟩) hz).trans k3; simp [execOp, e97, go_sem, m3]))
  · exact Obl.bin ⟨by kernel_rfl, by kernel_rfl, by kernel_rfl⟩ .lss _ (.tmp 98) (.const (.int .i64 0)) _ rfl (.int .i64 0) (.int .i64 0) (.bool false) (by kernel_rfl) (by kernel_rfl) (fun w => by simp [eqGuard, go_sem]; try omega) (by kernel_rfl)
  · exact Obl.pick trivial _ _ _ rfl false (by kernel_rfl) (by kernel_rfl)
  · exact Obl.move trivial _ (Or.inl rfl) (by kernel_rfl)
  · exact Obl.pure ⟨by kernel_rfl, by kernel_rfl, by kernel_rfl⟩ (.pointer (some ⟨L, 3, none⟩)) (by kernel_rfl) (fun ev w hb hx => by
      have e1 : ev (.tmp 1) = .pointer (some ⟨L, 0, none⟩) := holds_val (hx (.tmp 1)) (by kernel_rfl)
      simp [execOp, e1, go_sem])
  · exact Obl.pure ⟨by kernel_rfl, by kernel_rfl, by kernel_rfl⟩ (.int .i64 0) (by kernel_rfl) (fun ev w hb hx => by
      have e102 : ev (.tmp 102) = .pointer (some ⟨L, 3, none⟩) := holds_val (hx (.tmp 102)) (by kernel_rfl)
      (have m3 := (hb.cell (p := ⟨L, 3, none⟩) hz).trans k3; simp [execOp, e102, go_sem, m3]))
  · exact Obl.bin ⟨by kernel_rfl, by kernel_rfl, by kernel_rfl⟩ .geq _ (.tmp 103) (.const (.int .i64 6)) _ rfl (.int .i64 0) (.int .i64 6) (.bool false) (by kernel_rfl) (by kernel_rfl) (fun w => by simp [eqGuard, go_sem]; try omega) (by kernel_rfl)
  · exact Obl.pick trivial _ _ _ rfl false (by kernel_rfl) (by kernel_rfl)
  · exact Obl.move trivial _ (Or.inl rfl) (by kernel_rfl)
  · exact Obl.move ⟨by kernel_rfl, by kernel_rfl, by kernel_rfl⟩ _ (Or.inl rfl) (by kernel_rfl)
  · exact Obl.call ⟨by kernel_rfl, by kernel_rfl, by kernel_rfl⟩ 46 #[.tmp 107, .const (.int .u8 104)] _ rfl Try.f46 Try.func46 (by kernel_rfl) (by kernel_rfl) (fun ev w hb hx => by
      have e107 : ev (.tmp 107) = .string (hasS 1) := holds_val (hx (.tmp 107)) (by kernel_rfl)
      have k0 : ev (.const (.int .u8 104)) = (.int .u8 104) := holds_val (hx (.const (.int .u8 104))) (by kernel_rfl)
      simp only [List.map_toArray, List.map_cons, List.map_nil, e107, k0]
      exact (((ref8_in_h (hasS 1) w (hasS_size 1)).mono fun e w' h => still_ans ih h)).mono fun _ _ hh => Val.holds (by kernel_rfl) hh)
  · exact Obl.move ⟨by kernel_rfl, by kernel_rfl, by kernel_rfl⟩ _ (Or.inl rfl) (by kernel_rfl)
  · exact Obl.skip 25 true (.bool false) rfl (by kernel_rfl) (by kernel_rfl) (by kernel_rfl) (by kernel_rfl) (fun w => holds_undef (by kernel_rfl))
  · exact Obl.skip 25 true (.bool false) rfl (by kernel_rfl) (by kernel_rfl) (by kernel_rfl) (by kernel_rfl) (fun w => holds_undef (by kernel_rfl))
  · exact Obl.skip 25 true (.bool false) rfl (by kernel_rfl) (by kernel_rfl) (by kernel_rfl) (by kernel_rfl) (fun w => holds_undef (by kernel_rfl))
  · exact Obl.skip 25 true (.bool false) rfl (by kernel_rfl) (by kernel_rfl) (by kernel_rfl) (by kernel_rfl) (fun w => holds_undef (by kernel_rfl))
  · exact Obl.skip 29 false (undef) rfl (by kernel_rfl) (by kernel_rfl) (by kernel_rfl) (by kernel_rfl) (fun w => holds_undef (by kernel_rfl))
  · exact Obl.skip 29 false (undef) rfl (by kernel_rfl) (by kernel_rfl) (by kernel_rfl) (by kernel_rfl) (fun w => holds_undef (by kernel_rfl))
  · exact Obl.skip 29 false (undef) rfl (by kernel_rfl) (by kernel_rfl) (by kernel_rfl) (by kernel_rfl) (fun w => holds_undef (by kernel_rfl))
  · exact Obl.skip 25 true (.bool false) rfl (by kernel_rfl) (by kernel_rfl) (by kernel_rfl) (by kernel_rfl) (fun w => holds_undef (by kernel_rfl))
  · exact Obl.pick ⟨by kernel_rfl, by kernel_rfl, by kernel_rfl⟩ _ _ _ rfl false (by kernel_rfl) (by kernel_rfl)
  · exact Obl.pick trivial _ _ _ rfl false (by kernel_rfl) (by kernel_rfl)
  · exact Obl.move trivial _ (Or.inl rfl) (by kernel_rfl)
  · exact Obl.pure ⟨by kernel_rfl, by kernel_rfl, by kernel_rfl⟩ (.pointer (some ⟨L, 5, none⟩)) (by kernel_rfl) (fun ev w hb hx => by
      have e1 : ev (.tmp 1) = .pointer (some ⟨L, 0, none⟩) := holds_val (hx (.tmp 1)) (by kernel_rfl)
      simp [execOp, e1, go_sem])
  · exact Obl.pure ⟨by kernel_rfl, by kernel_rfl, by kernel_rfl⟩ (.int .i64 0) (by kernel_rfl) (fun ev w hb hx => by
      have e121 : ev (.tmp 121) = .pointer (some ⟨L, 5, none⟩) := holds_val (hx (.tmp 121)) (by kernel_rfl)
      (have m5 := (hb.cell (p := ⟨L, 5, none⟩) hz).trans k5; simp [execOp, e121, go_sem, m5]))
  · exact Obl.bin ⟨by kernel_rfl, by kernel_rfl, by kernel_rfl⟩ .lss _ (.tmp 122) (.const (.int .i64 0)) _ rfl (.int .i64 0) (.int .i64 0) (.bool false) (by kernel_rfl) (by kernel_rfl) (fun w => by simp [eqGuard, go_sem]; try omega) (by kernel_rfl)
  · exact Obl.pick trivial _ _ _ rfl false (by kernel_rfl) (by kernel_rfl)
  · exact Obl.move trivial _ (Or.inl rfl) (by kernel_rfl)
  · exact Obl.pure ⟨by kernel_rfl, by kernel_rfl, by kernel_rfl⟩ (.pointer (some ⟨L, 5, none⟩)) (by kernel_rfl) (fun ev w hb hx => by
      have e1 : ev (.tmp 1) = .pointer (some ⟨L, 0, none⟩) := holds_val (hx (.tmp 1)) (by kernel_rfl)
      simp [execOp, e1, go_sem])
  · exact Obl.pure ⟨by kernel_rfl, by kernel_rfl, by kernel_rfl⟩ (.int .i64 0) (by kernel_rfl) (fun ev w hb hx => by
      have e126 : ev (.tmp 126) = .pointer (some ⟨L, 5, none⟩) := holds_val (hx (.tmp 126)) (by kernel_rfl)
      (have m5 := (hb.cell (p := ⟨L, 5, none⟩) hz).trans k5; simp [execOp, e126, go_sem, m5]))
  · exact Obl.bin ⟨by kernel_rfl, by kernel_rfl, by kernel_rfl⟩ .gtr _ (.tmp 127) (.const (.int .i64 3)) _ rfl (.int .i64 0) (.int .i64 3) (.bool false) (by kernel_rfl) (by kernel_rfl) (fun w => by simp [eqGuard, go_sem]; try omega) (by kernel_rfl)
  · exact Obl.pick trivial _ _ _ rfl false (by kernel_rfl) (by kernel_rfl)
  · exact Obl.move trivial _ (Or.inl rfl) (by kernel_rfl)
  · exact Obl.pure ⟨by kernel_rfl, by kernel_rfl, by kernel_rfl⟩ (.pointer (some ⟨L, 6, none⟩)) (by kernel_rfl) (fun ev w hb hx => by
      have e1 : ev (.tmp 1) = .pointer (some ⟨L, 0, none⟩) := holds_val (hx (.tmp 1)) (by kernel_rfl)
      simp [execOp, e1, go_sem])
  · exact Obl.pure ⟨by kernel_rfl, by kernel_rfl, by kernel_rfl⟩ (.int .i64 0) (by kernel_rfl) (fun ev w hb hx => by
      have e131 : ev (.tmp 131) = .pointer (some ⟨L, 6, none⟩) := holds_val (hx (.tmp 131)) (by kernel_rfl)
      (have m6 := (hb.cell (p := ⟨L, 6, none⟩) hz).trans k6; simp [execOp, e131, go_sem, m6]))
  · exact Obl.bin ⟨by kernel_rfl, by kernel_rfl, by kernel_rfl⟩ .lss _ (.tmp 132) (.const (.int .i64 0)) _ rfl (.int .i64 0) (.int .i64 0) (.bool false) (by kernel_rfl) (by kernel_rfl) (fun w => by simp [eqGuard, go_sem]; try omega) (by kernel_rfl)
  · exact Obl.pick trivial _ _ _ rfl false (by kernel_rfl) (by kernel_rfl)
  · exact Obl.move trivial _ (Or.inl rfl) (by kernel_rfl)
  · exact Obl.pure ⟨by kernel_rfl, by kernel_rfl, by kernel_rfl⟩ (.pointer (some ⟨L, 6, none⟩)) (by kernel_rfl) (fun ev w hb hx => by
      have e1 : ev (.tmp 1) = .pointer (some ⟨L, 0, none⟩) := holds_val (hx (.tmp 1)) (by kernel_rfl)
      simp [execOp, e1, go_sem])
  · exact Obl.pure ⟨by kernel_rfl, by kernel_rfl, by kernel_rfl⟩ (.int .i64 0) (by kernel_rfl) (fun ev w hb hx => by
      have e136 : ev (.tmp 136) = .pointer (some ⟨L, 6, none⟩) := holds_val (hx (.tmp 136)) (by kernel_rfl)
      (have m6 := (hb.cell (p := ⟨L, 6, none⟩) hz).trans k6; simp [execOp, e136, go_sem, m6]))
  · exact Obl.bin ⟨by kernel_rfl, by kernel_rfl, by kernel_rfl⟩ .geq _ (.tmp 137) (.const (.int .i64 3)) _ rfl (.int .i64 0) (.int .i64 3) (.bool false) (by kernel_rfl) (by kernel_rfl) (fun w => by simp [eqGuard, go_sem]; try omega) (by kernel_rfl)
  · exact Obl.pick trivial _ _ _ rfl false (by kernel_rfl) (by kernel_rfl)
  · exact Obl.move trivial _ (Or.inl rfl) (by kernel_rfl)
  · exact Obl.pure ⟨by kernel_rfl, by kernel_rfl, by kernel_rfl⟩ (.pointer (some ⟨L, 7, none⟩)) (by kernel_rfl) (fun ev w hb hx => by
      have e1 : ev (.tmp 1) = .pointer (some ⟨L, 0, none⟩) := holds_val (hx (.tmp 1)) (by kernel_rfl)
      simp [execOp, e1, go_sem])
  · exact Obl.pure ⟨by kernel_rfl, by kernel_rfl, by kernel_rfl⟩ (.int .i64 0) (by kernel_rfl) (fun ev w hb hx => by
      have e141 : ev (.tmp 141) = .pointer (some ⟨L, 7, none⟩) := holds_val (hx (.tmp 141)) (by kernel_rfl)
      (have m7 := (hb.cell (p := ⟨L, 7, none⟩) hz).trans k7; simp [execOp, e141, go_sem, m7]))
  · exact Obl.bin ⟨by kernel_rfl, by kernel_rfl, by kernel_rfl⟩ .lss _ (.tmp 142) (.const (.int .i64 0)) _ rfl (.int .i64 0) (.int .i64 0) (.bool false) (by kernel_rfl) (by kernel_rfl) (fun w => by simp [eqGuard, go_sem]; try omega) (by kernel_rfl)
  · exact Obl.pick trivial _ _ _ rfl false (by kernel_rfl) (by kernel_rfl)
  · exact Obl.move trivial _ (Or.inl rfl) (by kernel_rfl)
  · exact Obl.pure ⟨by kernel_rfl, by kernel_rfl, by kernel_rfl⟩ (.pointer (some ⟨L, 7, none⟩)) (by kernel_rfl) (fun ev w hb hx => by
      have e1 : ev (.tmp 1) = .pointer (some ⟨L, 0, none⟩) := holds_val (hx (.tmp 1)) (by kernel_rfl)
      simp [execOp, e1, go_sem])
  · exact Obl.pure ⟨by kernel_rfl, by kernel_rfl, by kernel_rfl⟩ (.int .i64 0) (by kernel_rfl) (fun ev w hb hx => by
      have e146 : ev (.tmp 146) = .pointer (some ⟨L, 7, none⟩) := holds_val (hx (.tmp 146)) (by kernel_rfl)
      (have m7 := (hb.cell (p := ⟨L, 7, none⟩) hz).trans k7; simp [execOp, e146, go_sem, m7]))
  · exact Obl.bin ⟨by kernel_rfl, by kernel_rfl, by kernel_rfl⟩ .gtr _ (.tmp 147) (.const (.int .i64 255)) _ rfl (.int .i64 0) (.int .i64 255) (.bool false) (by kernel_rfl) (by kernel_rfl) (fun w => by simp [eqGuard, go_sem]; try omega) (by kernel_rfl)
  · exact Obl.pick trivial _ _ _ rfl false (by kernel_rfl) (by kernel_rfl)
  intro a WR hb hsz hdf hold hv
  have ha := act_puts [84, 85, 86, 87, 88, 89, 90, 91, 92, 93, 94, 95, 96, 97, 98, 99, 100, 101, 102, 103, 104, 105, 106, 107, 108, 109, 110, 111, 112, 113, 114, 115, 116, 117, 118, 119, 120, 121, 122, 123, 124, 125, 126, 127, 128, 129, 130, 131, 132, 133, 134, 135, 136, 137, 138, 139, 140, 141, 142, 143, 144, 145, 146, 147, 148, 149] (by kernel_rfl) hsz hdf hold
  simp only [putAll] at ha
  have z149 : a.tmps.getD 149 undef = .bool false := holds_val (hv 65 149 (by kernel_rfl)) (by kernel_rfl)
  rw [z149] at ha
  generalize a.tmps.getD 84 undef = x84 at ha
  generalize a.tmps.getD 85 undef = x85 at ha
  generalize a.tmps.getD 86 undef = x86 at ha
  generalize a.tmps.getD 87 undef = x87 at ha
  generalize a.tmps.getD 88 undef = x88 at ha
  generalize a.tmps.getD 89 undef = x89 at ha
  generalize a.tmps.getD 90 undef = x90 at ha
  generalize a.tmps.getD 91 undef = x91 at ha
  generalize a.tmps.getD 92 undef = x92 at ha
  generalize a.tmps.getD 93 undef = x93 at ha
  generalize a.tmps.getD 94 undef = x94 at ha
  generalize a.tmps.getD 95 undef = x95 at ha
  generalize a.tmps.getD 96 undef = x96 at ha
  generalize a.tmps.getD 97 undef = x97 at ha
  generalize a.tmps.getD 98 undef = x98 at ha
  generalize a.tmps.getD 99 undef = x99 at ha
  generalize a.tmps.getD 100 undef = x100 at ha
  generalize a.tmps.getD 101 undef = x101 at ha
  generalize a.tmps.getD 102 undef = x102 at ha
  generalize a.tmps.getD 103 undef = x103 at ha
  generalize a.tmps.getD 104 undef = x104 at ha
  generalize a.tmps.getD 105 undef = x105 at ha
  generalize a.tmps.getD 106 undef = x106 at ha
  generalize a.tmps.getD 107 undef = x107 at ha
  generalize a.tmps.getD 108 undef = x108 at ha
  generalize a.tmps.getD 109 undef = x109 at ha
  generalize a.tmps.getD 110 undef = x110 at ha
  generalize a.tmps.getD 111 undef = x111 at ha
  generalize a.tmps.getD 112 undef = x112 at ha
  generalize a.tmps.getD 113 undef = x113 at ha
  generalize a.tmps.getD 114 undef = x114 at ha
  generalize a.tmps.getD 115 undef = x115 at ha
  generalize a.tmps.getD 116 undef = x116 at ha
  generalize a.tmps.getD 117 undef = x117 at ha
  generalize a.tmps.getD 118 undef = x118 at ha
  generalize a.tmps.getD 119 undef = x119 at ha
  generalize a.tmps.getD 120 undef = x120 at ha
  generalize a.tmps.getD 121 undef = x121 at ha
  generalize a.tmps.getD 122 undef = x122 at ha
  generalize a.tmps.getD 123 undef = x123 at ha
  generalize a.tmps.getD 124 undef = x124 at ha
  generalize a.tmps.getD 125 undef = x125 at ha
  generalize a.tmps.getD 126 undef = x126 at ha
  generalize a.tmps.getD 127 undef = x127 at ha
  generalize a.tmps.getD 128 undef = x128 at ha
  generalize a.tmps.getD 129 undef = x129 at ha
  generalize a.tmps.getD 130 undef = x130 at ha
  generalize a.tmps.getD 131 undef = x131 at ha
  generalize a.tmps.getD 132 undef = x132 at ha
  generalize a.tmps.getD 133 undef = x133 at ha
  generalize a.tmps.getD 134 undef = x134 at ha
  generalize a.tmps.getD 135 undef = x135 at ha
  generalize a.tmps.getD 136 undef = x136 at ha
  generalize a.tmps.getD 137 undef = x137 at ha
  generalize a.tmps.getD 138 undef = x138 at ha
  generalize a.tmps.getD 139 undef = x139 at ha
  generalize a.tmps.getD 140 undef = x140 at ha
  generalize a.tmps.getD 141 undef = x141 at ha
  generalize a.tmps.getD 142 undef = x142 at ha
  generalize a.tmps.getD 143 undef = x143 at ha
  generalize a.tmps.getD 144 undef = x144 at ha
  generalize a.tmps.getD 145 undef = x145 at ha
  generalize a.tmps.getD 146 undef = x146 at ha
  generalize a.tmps.getD 147 undef = x147 at ha
  generalize a.tmps.getD 148 undef = x148 at ha
  clear hv hold hsz hdf z149
  subst ha
  simp only [Act.put, List.setIfInBounds_toArray, List.set_cons_succ, List.set_cons_zero]
  have b2 := b2.trans (hb.mono (by have := HLL.out; omega))
  clear hb k0 k1 k2 k3 k4 k5 k6 k7
  go_wp2_with fail
  refine (ref8_in_l (hasS 1) _ (hasS_size 1)).mono ?_
  rintro e w' ⟨rfl, rfl⟩
  go_wp2_with fail
  go_ret
  exact ⟨rfl, HLL.out ▸ b2⟩
set_option maxHeartbeats 8000000 in
theorem right8_2  (A : Option Addr) (c : Nat) (w : World) : Calls Try.prog 28 #[.agg #[.int .i64 2, .int .i64 0, .slice A 0 c, .int .i64 0, .int .i64 0, .int .i64 0, .int .i64 0, .int .i64 0]] w (Ans (.int .i64 0) w) := by
  have ic : inS8 (hasS 2) 99 = false := by decide
  have il : inS8 (hasS 2) 108 = false := by decide
  have ip : inS8 (hasS 2) 112 = false := by decide
  have ih : inS8 (hasS 2) 104 = false := by decide
  have ik : inS8 (hasS 2) 107 = false := by decide
  have iy : inS8 (hasS 2) 121 = false := by decide
  have ie : inS8 (hasS 2) 101 = false := by decide
  have kc := blk8 (Blk.new w 25 #[.int .i64 2, .int .i64 0, .slice A 0 c, .int .i64 0, .int .i64 0, .int .i64 0, .int .i64 0, .int .i64 0])
  have b0 := below_alloc w (.cells #[.int .i64 2, .int .i64 0, .slice A 0 c, .int .i64 0, .int .i64 0, .int .i64 0, .int .i64 0, .int .i64 0] 25)
  have hz : w.heap.size < (w.alloc (.cells #[.int .i64 2, .int .i64 0, .slice A 0 c, .int .i64 0, .int .i64 0, .int .i64 0, .int .i64 0, .int .i64 0] 25)).heap.size := by simp
  go_enter Try.func28, Try.ntmps28
  go_upto_region 1 with (fail)
  generalize w.alloc (.cells #[.int .i64 2, .int .i64 0, .slice A 0 c, .int .i64 0, .int .i64 0, .int .i64 0, .int .i64 0, .int .i64 0] 25) = W0 at kc b0 hz ⊢
  go_wp2_with fail
  refine (ref8_has 2 (by decide) (by decide) _).mono ?_
  rintro e W1 ⟨rfl, b1⟩
  have k0 := (b1.cell (p := ⟨w.heap.size, 0, none⟩) hz).trans kc.1
  have k1 := (b1.cell (p := ⟨w.heap.size, 1, none⟩) hz).trans kc.2.1
  have k2 := (b1.cell (p := ⟨w.heap.size, 2, none⟩) hz).trans kc.2.2.1
  have k3 := (b1.cell (p := ⟨w.heap.size, 3, none⟩) hz).trans kc.2.2.2.1
  have k4 := (b1.cell (p := ⟨w.heap.size, 4, none⟩) hz).trans kc.2.2.2.2.1
  have k5 := (b1.cell (p := ⟨w.heap.size, 5, none⟩) hz).trans kc.2.2.2.2.2.1
  have k6 := (b1.cell (p := ⟨w.heap.size, 6, none⟩) hz).trans kc.2.2.2.2.2.2.1
  have k7 := (b1.cell (p := ⟨w.heap.size, 7, none⟩) hz).trans kc.2.2.2.2.2.2.2
  have b2 := b0.trans (b1.mono b0.size)
  have hz := Nat.lt_of_lt_of_le hz b1.size
  clear kc b0 b1
  obtain ⟨L, hLL⟩ : ∃ L, L = w.heap.size := ⟨_, rfl⟩
  rw [← hLL] at k0 k1 k2 k3 k4 k5 k6 k7 hz b2
  have HLL := Lib.hid hLL
  go_upto_region 4 with (fail)
  rw [← hLL]
  clear hLL
  have q0 := Lib.hid k0
  have q1 := Lib.hid k1
  have q2 := Lib.hid k2
  have q3 := Lib.hid k3
  have q4 := Lib.hid k4
  have q5 := Lib.hid k5
  have q6 := Lib.hid k6
  have q7 := Lib.hid k7
  refine wp_region_seq [.val (.string (hasS 2)), .val (.bool false), .val (.bool true), .val (.bool true), .val (.pointer (some ⟨L, 1, none⟩)), .val (.int .i64 0), .val (.bool false), .val (.bool false), .val (.bool false), .val (.string (hasS 2)), .val (.bool false), .val (.bool true), .val (.bool true), .val (.pointer (some ⟨L, 2, none⟩)), .val (.slice A 0 c), .val (.int .i64 (0 : Nat)), .val (.bool false), .val (.bool false), .val (.bool false), .val (.bool false), .val (.string (hasS 2)), .val (.bool false), .val (.bool true), .val (.bool true), .val (.pointer (some ⟨L, 3, none⟩)), .val (.int .i64 0), .val (.bool false), .val (.bool false), .val (.bool false), .val (.bool false), .val (.string (hasS 2)), .val (.bool false), .val (.bool true), .val (.bool true), .val (.pointer (some ⟨L, 4, none⟩)), .val (.int .i64 0), .val (.bool false), .val (.bool false), .val (.bool false), .val (.bool false), .val (.string (hasS 2)), .val (.bool false), .val (.bool true), .val (.bool true), .val (.pointer (some ⟨L, 5, none⟩)), .val (.int .i64 0), .val (.bool false), .val (.bool false), .val (.bool false), .val (.bool false), .val (.string (hasS 2)), .val (.bool false), .val (.bool true), .val (.bool true), .val (.pointer (some ⟨L, 6, none⟩)), .val (.int .i64 0), .val (.bool false), .val (.bool false), .val (.bool false), .val (.bool false), .val (.string (hasS 2)), .val (.bool false), .val (.bool true), .val (.bool true), .val (.pointer (some ⟨L, 7, none⟩)), .val (.int .i64 0), .val (.bool false), .val (.bool false), .val (.bool false)] (by kernel_rfl) (by kernel_rfl) (AllObl.all ⟨?_, ?_, ?_, ?_, ?_, ?_, ?_, ?_, ?_, ?_, ?_, ?_, ?_, ?_, ?_, ?_, ?_, ?_, ?_, ?_, ?_, ?_, ?_, ?_, ?_, ?_, ?_, ?_, ?_, ?_, ?_, ?_, ?_, ?_, ?_, ?_, ?_, ?_, ?_, ?_, ?_, ?_, ?_, ?_, ?_, ?_, ?_, ?_, ?_, ?_, ?_, ?_, ?_, ?_, ?_, ?_, ?_, ?_, ?_, ?_, ?_, ?_, ?_, ?_, ?_, ?_, ?_, ?_, ?_, trivial⟩) ?_
  · exact Obl.move trivial _ (Or.inl rfl) (by kernel_rfl)
  · exact Obl.call trivial 46 #[.tmp 15, .const (.int .u8 99)] _ rfl Try.f46 Try.func46 (by kernel_rfl) (by kernel_rfl) (fun ev w hb hx => by
      have e15 : ev (.tmp 15) = .string (hasS 2) := holds_val (hx (.tmp 15)) (by kernel_rfl)
      have k0 : ev (.const (.int .u8 99)) = (.int .u8 99) := holds_val (hx (.const (.int .u8 99))) (by kernel_rfl)
      simp only [List.map_toArray, List.map_cons, List.map_nil, e15, k0]
      exact (((ref8_in_c (hasS 2) w (hasS_size 2)).mono fun e w' h => still_ans ic h)).mono fun _ _ hh => Val.holds (by kernel_rfl) hh)
  · exact Obl.un trivial .not _ (.tmp 16) rfl (.bool false) (.bool true) (by kernel_rfl) (fun w => by simp [go_sem]) (by kernel_rfl)
  · exact Obl.move trivial _ (Or.inl rfl) (by kernel_rfl)
  · exact Obl.pure ⟨by kernel_rfl, by kernel_rfl, by kernel_rfl⟩ (.pointer (some ⟨L, 1, none⟩)) (by kernel_rfl) (fun ev w hb hx => by
      have e1 : ev (.tmp 1) = .pointer (some ⟨L, 0, none⟩) := holds_val (hx (.tmp 1)) (by kernel_rfl)
      simp [execOp, e1, go_sem])
  · exact Obl.pure ⟨by kernel_rfl, by kernel_rfl, by kernel_rfl⟩ (.int .i64 0) (by kernel_rfl) (fun ev w hb hx => by
      have e19 : ev (.tmp 19) = .pointer (some ⟨L, 1, none⟩) := holds_val (hx (.tmp 19)) (by kernel_rfl)
      (have m1 := (hb.cell (p := ⟨L, 1, none⟩) hz).trans k1; simp [execOp, e19, go_sem, m1]))
  · exact Obl.bin ⟨by kernel_rfl, by kernel_rfl, by kernel_rfl⟩ .neq _ (.tmp 20) (.const (.int .i64 0)) _ rfl (.int .i64 0) (.int .i64 0) (.bool false) (by kernel_rfl) (by kernel_rfl) (fun w => by simp [eqGuard, go_sem]; try omega) (by kernel_rfl)
  · exact Obl.pick trivial _ _ _ rfl true (by kernel_rfl) (by kernel_rfl)
  · exact Obl.move trivial _ (Or.inl rfl) (by kernel_rfl)
  · exact Obl.move ⟨by kernel_rfl, by kernel_rfl, by kernel_rfl⟩ _ (Or.inl rfl) (by kernel_rfl)
  · exact Obl.call ⟨by kernel_rfl, by kernel_rfl, by kernel_rfl⟩ 46 #[.tmp 24, .const (.int .u8 108)] _ rfl Try.f46 Try.func46 (by kernel_rfl) (by kernel_rfl) (fun ev w hb hx => by
      have e24 : ev (.tmp 24) = .string (hasS 2) := holds_val (hx (.tmp 24)) (by kernel_rfl)
      have k0 : ev (.const (.int .u8 108)) = (.int .u8 108) := holds_val (hx (.const (.int .u8 108))) (by kernel_rfl)
      simp only [List.map_toArray, List.map_cons, List.map_nil, e24, k0]
      exact (((ref8_in_l (hasS 2) w (hasS_size 2)).mono fun e w' h => still_ans il h)).mono fun _ _ hh => Val.holds (by kernel_rfl) hh)
  · exact Obl.un ⟨by kernel_rfl, by kernel_rfl, by kernel_rfl⟩ .not _ (.tmp 25) rfl (.bool false) (.bool true) (by kernel_rfl) (fun w => by simp [go_sem]) (by kernel_rfl)
  · exact Obl.move ⟨by kernel_rfl, by kernel_rfl, by kernel_rfl⟩ _ (Or.inl rfl) (by kernel_rfl)
  · exact Obl.pure ⟨by kernel_rfl, by kernel_rfl, by kernel_rfl⟩ (.pointer (some ⟨L, 2, none⟩)) (by kernel_rfl) (fun ev w hb hx => by
      have e1 : ev (.tmp 1) = .pointer (some ⟨L, 0, none⟩) := holds_val (hx (.tmp 1)) (by kernel_rfl)
      simp [execOp, e1, go_sem])
  · exact Obl.pure ⟨by kernel_rfl, by kernel_rfl, by kernel_rfl⟩ (.slice A 0 c) (by kernel_rfl) (fun ev w hb hx => by
      have e28 : ev (.tmp 28) = .pointer (some ⟨L, 2, none⟩) := holds_val (hx (.tmp 28)) (by kernel_rfl)
      (have m2 := (hb.cell (p := ⟨L, 2, none⟩) hz).trans k2; simp [execOp, e28, go_sem, m2]))
  · exact Obl.lenV (x := (.tmp 29)) ⟨by kernel_rfl, by kernel_rfl, by kernel_rfl⟩ _ _ Try.underlying23 rfl (A) (0) (c) (by kernel_rfl) (by kernel_rfl)
  · exact Obl.bin ⟨by kernel_rfl, by kernel_rfl, by kernel_rfl⟩ .gtr _ (.tmp 30) (.const (.int .i64 0)) _ rfl (.int .i64 (0 : Nat)) (.int .i64 0) (.bool false) (by kernel_rfl) (by kernel_rfl) (fun w => by simp [eqGuard, go_sem]; try omega) (by kernel_rfl)
  · exact Obl.pick ⟨by kernel_rfl, by kernel_rfl, by kernel_rfl⟩ _ _ _ rfl true (by kernel_rfl) (by kernel_rfl)
  · exact Obl.pick trivial _ _ _ rfl false (by kernel_rfl) (by kernel_rfl)
  · exact Obl.move trivial _ (Or.inl rfl) (by kernel_rfl)
  · exact Obl.move ⟨by kernel_rfl, by kernel_rfl, by kernel_rfl⟩ _ (Or.inl rfl) (by kernel_rfl)
  · exact Obl.call ⟨by kernel_rfl, by kernel_rfl, by kernel_rfl⟩ 46 #[.tmp 35, .const (.int .u8 112)] _ rfl Try.f46 Try.func46 (by kernel_rfl) (by kernel_rfl) (fun ev w hb hx => by
      have e35 : ev (.tmp 35) = .string (hasS 2) := holds_val (hx (.tmp 35)) (by kernel_rfl)
      have k0 : ev (.const (.int .u8 112)) = (.int .u8 112) := holds_val (hx (.const (.int .u8 112))) (by kernel_rfl)
      simp only [List.map_toArray, List.map_cons, List.map_nil, e35, k0]
      exact (((ref8_in_p (hasS 2) w (hasS_size 2)).mono fun e w' h => still_ans ip h)).mono fun _ _ hh => Val.holds (by kernel_rfl) hh)
  · exact Obl.un ⟨by kernel_rfl, by kernel_rfl, by kernel_rfl⟩ .not _ (.tmp 36) rfl (.bool false) (.bool true) (by kernel_rfl) (fun w => by simp [go_sem]) (by kernel_rfl)
  · exact Obl.move ⟨by kernel_rfl, by kernel_rfl, by kernel_rfl⟩ _ (Or.inl rfl) (by kernel_rfl)
  · exact Obl.pure ⟨by kernel_rfl, by kernel_rfl, by kernel_rfl⟩ (.pointer (some ⟨L, 3, none⟩)) (by kernel_rfl) (fun ev w hb hx => by
      have e1 : ev (.tmp 1) = .pointer (some ⟨L, 0, none⟩) := holds_val (hx (.tmp 1)) (by kernel_rfl)
      simp [execOp, e1, go_sem])
  · exact Obl.pure ⟨by kernel_rfl, by kernel_rfl, by kernel_rfl⟩ (.int .i64 0) (by kernel_rfl) (fun ev w hb hx => by
      have e39 : ev (.tmp 39) = .pointer (some ⟨L, 3, none⟩) := holds_val (hx (.tmp 39)) (by kernel_rfl)
      (have m3 := (hb.cell (p := ⟨L, 3, none⟩) hz).trans k3; simp [execOp, e39, go_sem, m3]))
  · exact Obl.bin ⟨by kernel_rfl, by kernel_rfl, by kernel_rfl⟩ .neq _ (.tmp 40) (.const (.int .i64 0)) _ rfl (.int .i64 0) (.int .i64 0) (.bool false) (by kernel_rfl) (by kernel_rfl) (fun w => by simp [eqGuard, go_sem]; try omega) (by kernel_rfl)
  · exact Obl.pick ⟨by kernel_rfl, by kernel_rfl, by kernel_rfl⟩ _ _ _ rfl true (by kernel_rfl) (by kernel_rfl)
  · exact Obl.pick trivial _ _ _ rfl false (by kernel_rfl) (by kernel_rfl)
  · exact Obl.move trivial _ (Or.inl rfl) (by kernel_rfl)
  · exact Obl.move ⟨by kernel_rfl, by kernel_rfl, by kernel_rfl⟩ _ (Or.inl rfl) (by kernel_rfl)
  · exact Obl.call ⟨by kernel_rfl, by kernel_rfl, by kernel_rfl⟩ 46 #[.tmp 45, .const (.int .u8 104)] _ rfl Try.f46 Try.func46 (by kernel_rfl) (by kernel_rfl) (fun ev w hb hx => by
      have e45 : ev (.tmp 45) = .string (hasS 2) := holds_val (hx (.tmp 45)) (by kernel_rfl)
      have k0 : ev (.const (.int .u8 104)) = (.int .u8 104) := holds_val (hx (.const (.int .u8 104))) (by kernel_rfl)
      simp only [List.map_toArray, List.map_cons, List.map_nil, e45, k0]
      exact (((ref8_in_h (hasS 2) w (hasS_size 2)).mono fun e w' h => still_ans ih h)).mono fun _ _ hh => Val.holds (by kernel_rfl) hh)
  · exact Obl.un ⟨by kernel_rfl, by kernel_rfl, by kernel_rfl⟩ .not _ (.tmp 46) rfl (.bool false) (.bool true) (by kernel_rfl) (fun w => by simp [go_sem]) (by kernel_rfl)
  · exact Obl.move ⟨by kernel_rfl, by kernel_rfl, by kernel_rfl⟩ _ (Or.inl rfl) (by kernel_rfl)
  · exact Obl.pure ⟨by kernel_rfl, by kernel_rfl, by kernel_rfl⟩ (.pointer (some ⟨L, 4, none⟩)) (by kernel_rfl) (fun ev w hb hx => by
      have e1 : ev (.tmp 1) = .pointer (some ⟨L, 0, none⟩) := holds_val (hx (.tmp 1)) (by kernel_rfl)
      simp [execOp, e1, go_sem])
  · exact Obl.pure ⟨by kernel_rfl, by kernel_rfl, by kernel_rfl⟩ (.int .i64 0) (by kernel_rfl) (fun ev w hb hx => by
      have e49 : ev (.tmp 49) = .pointer (some ⟨L, 4, none⟩) := holds_val (hx (.tmp 49)) (by kernel_rfl)
      (have m4 := (hb.cell (p := ⟨L, 4, none⟩) hz).trans k4; simp [execOp, e49, go_sem, m4]))
  · exact Obl.bin ⟨by kernel_rfl, by kernel_rfl, by kernel_rfl⟩ .neq _ (.tmp 50) (.const (.int .i64 0)) _ rfl (.int .i64 0) (.int .i64 0) (.bool false) (by kernel_rfl) (by kernel_rfl) (fun w => by simp [eqGuard, go_sem]; try omega) (by kernel_rfl)
  · exact Obl.pick ⟨by kernel_rfl, by kernel_rfl, by kernel_rfl⟩ _ _ _ rfl true (by kernel_rfl) (by kernel_rfl)
  · exact Obl.pick trivial _ _ _ rfl false (by kernel_rfl) (by kernel_rfl)
  · exact Obl.move trivial _ (Or.inl rfl) (by kernel_rfl)
  · exact Obl.move ⟨by kernel_rfl, by kernel_rfl, by kernel_rfl⟩ _ (Or.inl rfl) (by kernel_rfl)
  · exact Obl.call ⟨by kernel_rfl, by kernel_rfl, by kernel_rfl⟩ 46 #[.tmp 55, .const (.int .u8 107)] _ rfl Try.f46 Try.func46 (by kernel_rfl) (by kernel_rfl) (fun ev w hb hx => by
      have e55 : ev (.tmp 55) = .string (hasS 2) := holds_val (hx (.tmp 55)) (by kernel_rfl)
      have k0 : ev (.const (.int .u8 107)) = (.int .u8 107) := holds_val (hx (.const (.int .u8 107))) (by kernel_rfl)
      simp only [List.map_toArray, List.map_cons, List.map_nil, e55, k0]
      exact (((ref8_in_k (hasS 2) w (hasS_size 2)).mono fun e w' h => still_ans ik h)).mono fun _ _ hh => Val.holds (by kernel_rfl) hh)
  · exact Obl.un ⟨by kernel_rfl, by kernel_rfl, by kernel_rfl⟩ .not _ (.tmp 56) rfl (.bool false) (.bool true) (by kernel_rfl) (fun w => by simp [go_sem]) (by kernel_rfl)
  · exact Obl.move ⟨by kernel_rfl, by kernel_rfl, by kernel_rfl⟩ _ (Or.inl rfl) (by kernel_rfl)
  · exact Obl.pure ⟨by kernel_rfl, by kernel_rfl, by kernel_rfl⟩ (.pointer (some ⟨L, 5, none⟩)) (by kernel_rfl) (fun ev w hb hx => by
      have e1 : ev (.tmp 1) = .pointer (some ⟨L, 0, none⟩) := holds_val (hx (.tmp 1)) (by kernel_rfl)
      simp [execOp, e1, go_sem])
  · exact Obl.pure ⟨by kernel_rfl, by kernel_rfl, by kernel_rfl⟩ (.int .i64 0) (by kernel_rfl) (fun ev w hb hx => by
      have e59 : ev (.tmp 59) = .pointer (some ⟨L, 5, none⟩) := holds_val (hx (.tmp 59)) (by kernel_rfl)
      (have m5 := (hb.cell (p := ⟨L, 5, none⟩) hz).trans k5; simp [execOp, e59, go_sem, m5]))
  · exact Obl.bin ⟨by kernel_rfl, by kernel_rfl, by kernel_rfl⟩ .neq _ (.tmp 60) (.const (.int .i64 0)) _ rfl (.int .i64 0) (.int .i64 0) (.bool false) (by kernel_rfl) (by kernel_rfl) (fun w => by simp [eqGuard, go_sem]; try omega) (by kernel_rfl)
  · exact Obl.pick ⟨by kernel_rfl, by kernel_rfl, by kernel_rfl⟩ _ _ _ rfl true (by kernel_rfl) (by kernel_rfl)
  · exact Obl.pick trivial _ _ _ rfl false (by kernel_rfl) (by kernel_rfl)
  · exact Obl.move trivial _ (Or.inl rfl) (by kernel_rfl)
  · exact Obl.move ⟨by kernel_rfl, by kernel_rfl, by kernel_rfl⟩ _ (Or.inl rfl) (by kernel_rfl)
  · exact Obl.call ⟨by kernel_rfl, by kernel_rfl, by kernel_rfl⟩ 46 #[.tmp 65, .const (.int .u8 121)] _ rfl Try.f46 Try.func46 (by kernel_rfl) (by kernel_rfl) (fun ev w hb hx => by
      have e65 : ev (.tmp 65) = .string (hasS 2) := holds_val (hx (.tmp 65)) (by kernel_rfl)
      have k0 : ev (.const (.int .u8 121)) = (.int .u8 121) := holds_val (hx (.const (.int .u8 121))) (by kernel_rfl)
      simp only [List.map_toArray, List.map_cons, List.map_nil, e65, k0]
      exact (((ref8_in_y (hasS 2) w (hasS_size 2)).mono fun e w' h => still_ans iy h)).mono fun _ _ hh => Val.holds (by kernel_rfl) hh)
  · exact Obl.un ⟨by kernel_rfl, by kernel_rfl, by kernel_rfl⟩ .not _ (.tmp 66) rfl (.bool false) (.bool true) (by kernel_rfl) (fun w => by simp [go_sem]) (by kernel_rfl)
  · exact Obl.move ⟨by kernel_rfl, by kernel_rfl, by kernel_rfl⟩ _ (Or.inl rfl) (by kernel_rfl)
  · exact Obl.pure ⟨by kernel_rfl, by kernel_rfl, by kernel_rfl⟩ (.pointer (some ⟨L, 6, none⟩)) (by kernel_rfl) (fun ev w hb hx => by
      have e1 : ev (.tmp 1) = .pointer (some ⟨L, 0, none⟩) := holds_val (hx (.tmp 1)) (by kernel_rfl)
      simp [execOp, e1, go_sem])
  · exact Obl.pure ⟨by kernel_rfl, by kernel_rfl, by kernel_rfl⟩ (.int .i64 0) (by kernel_rfl) (fun ev w hb hx => by
      have e69 : ev (.tmp 69) = .pointer (some ⟨L, 6, none⟩) := holds_val (hx (.tmp 69)) (by kernel_rfl)
      (have m6 := (hb.cell (p := ⟨L, 6, none⟩) hz).trans k6; simp [execOp, e69, go_sem, m6]))
  · exact Obl.bin ⟨by kernel_rfl, by kernel_rfl, by kernel_rfl⟩ .neq _ (.tmp 70) (.const (.int .i64 0)) _ rfl (.int .i64 0) (.int .i64 0) (.bool false) (by kernel_rfl) (by kernel_rfl) (fun w => by simp [eqGuard, go_sem]; try omega) (by kernel_rfl)
  · exact Obl.pick ⟨by kernel_rfl, by kernel_rfl, by kernel_rfl⟩ _ _ _ rfl true (by kernel_rfl) (by kernel_rfl)
  · exact Obl.pick trivial _ _ _ rfl false (by kernel_rfl) (by kernel_rfl)
  · exact Obl.move trivial _ (Or.inl rfl) (by kernel_rfl)
  · exact Obl.move ⟨by kernel_rfl, by kernel_rfl, by kernel_rfl⟩ _ (Or.inl rfl) (by kernel_rfl)
  · exact Obl.call ⟨by kernel_rfl, by kernel_rfl, by kernel_rfl⟩ 46 #[.tmp 75, .const (.int .u8 101)] _ rfl Try.f46 Try.func46 (by kernel_rfl) (by kernel_rfl) (fun ev w hb hx => by
      have e75 : ev (.tmp 75) = .string (hasS 2) := holds_val (hx (.tmp 75)) (by kernel_rfl)
      have k0 : ev (.const (.int .u8 101)) = (.int .u8 101) := holds_val (hx (.const (.int .u8 101))) (by kernel_rfl)
      simp only [List.map_toArray, List.map_cons, List.map_nil, e75, k0]
      exact (((ref8_in_e (hasS 2) w (hasS_size 2)).mono fun e w' h => still_ans ie h)).mono fun _ _ hh => Val.holds (by kernel_rfl) hh)
  · exact Obl.un ⟨by kernel_rfl, by kernel_rfl, by kernel_rfl⟩ .not _ (.tmp 76) rfl (.bool false) (.bool true) (by kernel_rfl) (fun w => by simp [go_sem]) (by kernel_rfl)
  · exact Obl.move ⟨by kernel_rfl, by kernel_rfl, by kernel_rfl⟩ _ (Or.inl rfl) (by kernel_rfl)
  · exact Obl.pure ⟨by kernel_rfl, by kernel_rfl, by kernel_rfl⟩ (.pointer (some ⟨L, 7, none⟩)) (by kernel_rfl) (fun ev w hb hx => by
      have e1 : ev (.tmp 1) = .pointer (some ⟨L, 0, none⟩) := holds_val (hx (.tmp 1)) (by kernel_rfl)
      simp [execOp, e1, go_sem])
  · exact Obl.pure ⟨by kernel_rfl, by kernel_rfl, by kernel_rfl⟩ (.int .i64 0) (by kernel_rfl) (fun ev w hb hx => by
      have e79 : ev (.tmp 79) = .pointer (some ⟨L, 7, none⟩) := holds_val (hx (.tmp 79)) (by kernel_rfl)
      (have m7 := (hb.cell (p := ⟨L, 7, none⟩) hz).trans k7; simp [execOp, e79, go_sem, m7]))
  · exact Obl.bin ⟨by kernel_rfl, by kernel_rfl, by kernel_rfl⟩ .neq _ (.tmp 80) (.const (.int .i64 0)) _ rfl (.int .i64 0) (.int .i64 0) (.bool false) (by kernel_rfl) (by kernel_rfl) (fun w => by simp [eqGuard, go_sem]; try omega) (by kernel_rfl)
  · exact Obl.pick ⟨by kernel_rfl, by kernel_rfl, by kernel_rfl⟩ _ _ _ rfl true (by kernel_rfl) (by kernel_rfl)
  · exact Obl.pick trivial _ _ _ rfl false (by kernel_rfl) (by kernel_rfl)
  intro a WR hb hsz hdf hold hv
  have ha := act_puts [15, 16, 17, 18, 19, 20, 21, 22, 23, 24, 25, 26, 27, 28, 29, 30, 31, 32, 33, 34, 35, 36, 37, 38, 39, 40, 41, 42, 43, 44, 45, 46, 47, 48, 49, 50, 51, 52, 53, 54, 55, 56, 57, 58, 59, 60, 61, 62, 63, 64, 65, 66, 67, 68, 69, 70, 71, 72, 73, 74, 75, 76, 77, 78, 79, 80, 81, 82, 83] (by kernel_rfl) hsz hdf hold
  simp only [putAll] at ha
  have z83 : a.tmps.getD 83 undef = .bool false := holds_val (hv 68 83 (by kernel_rfl)) (by kernel_rfl)
  rw [z83] at ha
  generalize a.tmps.getD 15 undef = x15 at ha
  generalize a.tmps.getD 16 undef = x16 at ha
  generalize a.tmps.getD 17 undef = x17 at ha
  generalize a.tmps.getD 18 undef = x18 at ha
  generalize a.tmps.getD 19 undef = x19 at ha
  generalize a.tmps.getD 20 undef = x20 at ha
  generalize a.tmps.getD 21 undef = x21 at ha
  generalize a.tmps.getD 22 undef = x22 at ha
  generalize a.tmps.getD 23 undef = x23 at ha
  generalize a.tmps.getD 24 undef = x24 at ha
  generalize a.tmps.getD 25 undef = x25 at ha
  generalize a.tmps.getD 26 undef = x26 at ha
  generalize a.tmps.getD 27 undef = x27 at ha
  generalize a.tmps.getD 28 undef = x28 at ha
  generalize a.tmps.getD 29 undef = x29 at ha
  generalize a.tmps.getD 30 undef = x30 at ha
  generalize a.tmps.getD 31 undef = x31 at ha
  generalize a.tmps.getD 32 undef = x32 at ha
  generalize a.tmps.getD 33 undef = x33 at ha
  generalize a.tmps.getD 34 undef = x34 at ha
  generalize a.tmps.getD 35 undef = x35 at ha
  generalize a.tmps.getD 36 undef = x36 at ha
  generalize a.tmps.getD 37 undef = x37 at ha
  generalize a.tmps.getD 38 undef = x38 at ha
  generalize a.tmps.getD 39 undef = x39 at ha
  generalize a.tmps.getD 40 undef = x40 at ha
  generalize a.tmps.getD 41 undef = x41 at ha
  generalize a.tmps.getD 42 undef = x42 at ha
  generalize a.tmps.getD 43 undef = x43 at ha
  generalize a.tmps.getD 44 undef = x44 at ha
  generalize a.tmps.getD 45 undef = x45 at ha
  generalize a.tmps.getD 46 undef = x46 at ha
  generalize a.tmps.getD 47 undef = x47 at ha
  generalize a.tmps.getD 48 undef = x48 at ha
  generalize a.tmps.getD 49 undef = x49 at ha
  generalize a.tmps.getD 50 undef = x50 at ha
  generalize a.tmps.getD 51 undef = x51 at ha
  generalize a.tmps.getD 52 undef = x52 at ha
  generalize a.tmps.getD 53 undef = x53 at ha
  generalize a.tmps.getD 54 undef = x54 at ha
  generalize a.tmps.getD 55 undef = x55 at ha
  generalize a.tmps.getD 56 undef = x56 at ha
  generalize a.tmps.getD 57 undef = x57 at ha
  generalize a.tmps.getD 58 undef = x58 at ha
  generalize a.tmps.getD 59 undef = x59 at ha
  generalize a.tmps.getD 60 undef = x60 at ha
  generalize a.tmps.getD 61 undef = x61 at ha
  generalize a.tmps.getD 62 undef = x62 at ha
  generalize a.tmps.getD 63 undef = x63 at ha
  generalize a.tmps.getD 64 undef = x64 at ha
  generalize a.tmps.getD 65 undef = x65 at ha
  generalize a.tmps.getD 66 undef = x66 at ha
  generalize a.tmps.getD 67 undef = x67 at ha
  generalize a.tmps.getD 68 undef = x68 at ha
  generalize a.tmps.getD 69 undef = x69 at ha
  generalize a.tmps.getD 70 undef = x70 at ha
  generalize a.tmps.getD 71 undef = x71 at ha
  generalize a.tmps.getD 72 undef = x72 at ha
  generalize a.tmps.getD 73 undef = x73 at ha
  generalize a.tmps.getD 74 undef = x74 at ha
  generalize a.tmps.getD 75 undef = x75 at ha
  generalize a.tmps.getD 76 undef = x76 at ha
  generalize a.tmps.getD 77 undef = x77 at ha
  generalize a.tmps.getD 78 undef = x78 at ha
  generalize a.tmps.getD 79 undef = x79 at ha
  generalize a.tmps.getD 80 undef = x80 at ha
  generalize a.tmps.getD 81 undef = x81 at ha
  generalize a.tmps.getD 82 undef = x82 at ha
  clear hv hold hsz hdf z83
  subst ha
  simp only [Act.put, List.setIfInBounds_toArray, List.set_cons_succ, List.set_cons_zero]
  have k0 := (hb.cell (p := ⟨L, 0, none⟩) hz).trans q0.out
  have k1 := (hb.cell (p := ⟨L, 1, none⟩) hz).trans q1.out
  have k2 := (hb.cell (p := ⟨L, 2, none⟩) hz).trans q2.out
  have k3 := (hb.cell (p := ⟨L, 3, none⟩) hz).trans q3.out
  have k4 := (hb.cell (p := ⟨L, 4, none⟩) hz).trans q4.out
  have k5 := (hb.cell (p := ⟨L, 5, none⟩) hz).trans q5.out
  have k6 := (hb.cell (p := ⟨L, 6, none⟩) hz).trans q6.out
  have k7 := (hb.cell (p := ⟨L, 7, none⟩) hz).trans q7.out
  have hz := Nat.lt_of_lt_of_le hz hb.size
  have b2 := b2.trans (hb.mono (by have := HLL.out; omega))
  clear hb
  go_upto_region 6 with (fail)
  refine wp_region_seq [.val (.string (hasS 2)), .val (.bool false), .val (.bool false), .val (undef), .val (undef), .val (undef), .val (undef), .val (undef), .val (undef), .val (undef), .val (undef), .val (.bool false), .val (.bool false), .val (.pointer (some ⟨L, 3, none⟩)), .val (.int .i64 0), .val (.bool false), .val (.bool false), .val (.bool false), .val (.pointer (some ⟨L, 3, none⟩)), .val (.int .i64 0), .val (.bool false), .val (.bool false), .val (.bool false), .val (.string (hasS 2)), .val (.bool false), .val (.bool false), .val (undef), .val (undef), .val (undef), .val (undef), .val (undef), .val (undef), .val (undef), .val (undef), .val (.bool false), .val (.bool false), .val (.bool false), .val (.pointer (some ⟨L, 5, none⟩)), .val (.int .i64 0), .val (.bool false), .val (.bool false), .val (.bool false), .val (.pointer (some ⟨L, 5, none⟩)), .val (.int .i64 0), .val (.bool false), .val (.bool false), .val (.bool false), .val (.pointer (some ⟨L, 6, none⟩)), .val (.int .i64 0), .val (.bool false), .val (.bool false), .val (.bool false), .val (.pointer (some ⟨L, 6, none⟩)), .val (.int .i64 0), .val (.bool false), .val (.bool false), .val (.bool false), .val (.pointer (some ⟨L, 7, none⟩)), .val (.int .i64 0), .val (.bool false), .val (.bool false), .val (.bool false), .val (.pointer (some ⟨L, 7, none⟩)), .val (.int .i64 0), .val (.bool false), .val (.bool false)] (by kernel_rfl) (by kernel_rfl) (AllObl.all ⟨?_, ?_, ?_, ?_, ?_, ?_, ?_, ?_, ?_, ?_, ?_, ?_, ?_, ?_, ?_, ?_, ?_, ?_, ?_, ?_, ?_, ?_, ?_, ?_, ?_, ?_, ?_, ?_, ?_, ?_, ?_, ?_, ?_, ?_, ?_, ?_, ?_, ?_, ?_, ?_, ?_, ?_, ?_, ?_, ?_, ?_, ?_, ?_, ?_, ?_, ?_, ?_, ?_, ?_, ?_, ?_, ?_, ?_, ?_, ?_, ?_, ?_, ?_, ?_, ?_, ?_, trivial⟩) ?_
  · exact Obl.move trivial _ (Or.inl rfl) (by kernel_rfl)
  · exact Obl.call trivial 46 #[.tmp 84, .const (.int .u8 99)] _ rfl Try.f46 Try.func46 (by kernel_rfl) (by kernel_rfl) (fun ev w hb hx => by
      have e84 : ev (.tmp 84) = .string (hasS 2) := holds_val (hx (.tmp 84)) (by kernel_rfl)
      have k0 : ev (.const (.int .u8 99)) = (.int .u8 99) := holds_val (hx (.const (.int .u8 99))) (by kernel_rfl)
      simp only [List.map_toArray, List.map_cons, List.map_nil, e84, k0]
      exact (((ref8_in_c (hasS 2) w (hasS_size 2)).mono fun e w' h => still_ans ic h)).mono fun _ _ hh => Val.holds (by kernel_rfl) hh)
  · exact Obl.move trivial _ (Or.inl rfl) (by kernel_rfl)
  · exact Obl.skip 2 true (.bool false) rfl (by kernel_rfl) (by kernel_rfl) (by kernel_rfl) (by kernel_rfl) (fun w => holds_undef (by kernel_rfl))
  · exact Obl.skip 2 true (.bool false) rfl (by kernel_rfl) (by kernel_rfl) (by kernel_rfl) (by kernel_rfl) (fun w => holds_undef (by kernel_rfl))
  · exact Obl.skip 2 true (.bool false) rfl (by kernel_rfl) (by kernel_rfl) (by kernel_rfl) (by kernel_rfl) (fun w => holds_undef (by kernel_rfl))
  · exact Obl.skip 2 true (.bool false) rfl (by kernel_rfl) (by kernel_rfl) (by kernel_rfl) (by kernel_rfl) (fun w => holds_undef (by kernel_rfl))
  · exact Obl.skip 6 false (undef) rfl (by kernel_rfl) (by kernel_rfl) (by kernel_rfl) (by kernel_rfl) (fun w => holds_undef (by kernel_rfl))
  · exact Obl.skip 6 false (undef) rfl (by kernel_rfl) (by kernel_rfl) (by kernel_rfl) (by kernel_rfl) (fun w => holds_undef (by kernel_rfl))
  · exact Obl.skip 6 false (undef) rfl (by kernel_rfl) (by kernel_rfl) (by kernel_rfl) (by kernel_rfl) (fun w => holds_undef (by kernel_rfl))
  · exact Obl.skip 2 true (.bool false) rfl (by kernel_rfl) (by kernel_rfl) (by kernel_rfl) (by kernel_rfl) (fun w => holds_undef (by kernel_rfl))
  · exact Obl.pick trivial _ _ _ rfl false (by kernel_rfl) (by kernel_rfl)
  · exact Obl.move trivial _ (Or.inl rfl) (by kernel_rfl)
  · exact Obl.pure ⟨by kernel_rfl, by kernel_rfl, by kernel_rfl⟩ (.pointer (some ⟨L, 3, none⟩)) (by kernel_rfl) (fun ev w hb hx => by
      have e1 : ev (.tmp 1) = .pointer (some ⟨L, 0, none⟩) := holds_val (hx (.tmp 1)) (by kernel_rfl)
      simp [execOp, e1, go_sem])
  · exact Obl.pure ⟨by kernel_rfl, by kernel_rfl, by kernel_rfl⟩ (.int .i64 0) (by kernel_rfl) (fun ev w hb hx => by
      have e97 : ev (.tmp 97) = .pointer (some ⟨L, 3, none⟩) := holds_val (hx (.tmp 97)) (by kernel_rfl)
      (have m3 := (hb.cell (p := ⟨L, 3, none⟩) hz).trans k3; simp [execOp, e97, go_sem, m3]))
  · exact Obl.bin ⟨by kernel_rfl, by kernel_rfl, by kernel_rfl⟩ .lss _ (.tmp 98) (.const (.int .i64 0)) _ rfl (.int .i64 0) (.int .i64 0) (.bool false) (by kernel_rfl) (by kernel_rfl) (fun w => by simp [eqGuard, go_sem]; try omega) (by kernel_rfl)
  · exact Obl.pick trivial _ _ _ rfl false (by kernel_rfl) (by kernel_rfl)
  · exact Obl.move trivial _ (Or.inl rfl) (by kernel_rfl)
  · exact Obl.pure ⟨by kernel_rfl, by kernel_rfl, by kernel_rfl⟩ (.pointer (some ⟨L, 3, none⟩)) (by kernel_rfl) (fun ev w hb hx => by
      have e1 : ev (.tmp 1) = .pointer (some ⟨L, 0, none⟩) := holds_val (hx (.tmp 1)) (by kernel_rfl)
      simp [execOp, e1, go_sem])
  · exact Obl.pure ⟨by kernel_rfl, by kernel_rfl, by kernel_rfl⟩ (.int .i64 0) (by kernel_rfl) (fun ev w hb hx => by
      have e102 : ev (.tmp 102) = .pointer (some ⟨L, 3, none⟩) := holds_val (hx (.tmp 102)) (by kernel_rfl)
      (have m3 := (hb.cell (p := ⟨L, 3, none⟩) hz).trans k3; simp [execOp, e102, go_sem, m3]))
  · exact Obl.bin ⟨by kernel_rfl, by kernel_rfl, by kernel_rfl⟩ .geq _ (.tmp 103) (.const (.int .i64 6)) _ rfl (.int .i64 0) (.int .i64 6) (.bool false) (by kernel_rfl) (by kernel_rfl) (fun w => by simp [eqGuard, go_sem]; try omega) (by kernel_rfl)
  · exact Obl.pick trivial _ _ _ rfl false (by kernel_rfl) (by kernel_rfl)
  · exact Obl.move trivial _ (Or.inl rfl) (by kernel_rfl)
  · exact Obl.move ⟨by kernel_rfl, by kernel_rfl, by kernel_rfl⟩ _ (Or.inl rfl) (by kernel_rfl)
  · exact Obl.call ⟨by kernel_rfl, by kernel_rfl, by kernel_rfl⟩ 46 #[.tmp 107, .const (.int .u8 104)] _ rfl Try.f46 Try.func46 (by kernel_rfl) (by kernel_rfl) (fun ev w hb hx => by
      have e107 : ev (.tmp 107) = .string (hasS 2) := holds_val (hx (.tmp 107)) (by kernel_rfl)
      have k0 : ev (.const (.int .u8 104)) = (.int .u8 104) := holds_val (hx (.const (.int .u8 104))) (by kernel_rfl)
      simp only [List.map_toArray, List.map_cons, List.map_nil, e107, k0]
      exact (((ref8_in_h (hasS 2) w (hasS_size 2)).mono fun e w' h => still_ans ih h)).mono fun _ _ hh => Val.holds (by kernel_rfl) hh)
  · exact Obl.move ⟨by kernel_rfl, by kernel_rfl, by kernel_rfl⟩ _ (Or.inl rfl) (by kernel_rfl)
  · exact Obl.skip 25 true (.bool false) rfl (by kernel_rfl) (by kernel_rfl) (by kernel_rfl) (by kernel_rfl) (fun w => holds_undef (by kernel_rfl))
  · exact Obl.skip 25 true (.bool false) rfl (by kernel_rfl) (by kernel_rfl) (by kernel_rfl) (by kernel_rfl) (fun w => holds_undef (by kernel_rfl))
  · exact Obl.skip 25 true (.bool false) rfl (by kernel_rfl) (by kernel_rfl) (by kernel_rfl) (by kernel_rfl) (fun w => holds_undef (by kernel_rfl))
  · exact Obl.skip 25 true (.bool false) rfl (by kernel_rfl) (by kernel_rfl) (by kernel_rfl) (by kernel_rfl) (fun w => holds_undef (by kernel_rfl))
  · exact Obl.skip 29 false (undef) rfl (by kernel_rfl) (by kernel_rfl) (by kernel_rfl) (by kernel_rfl) (fun w => holds_undef (by kernel_rfl))
  · exact Obl.skip 29 false (undef) rfl (by kernel_rfl) (by kernel_rfl) (by kernel_rfl) (by kernel_rfl) (fun w => holds_undef (by kernel_rfl))
  · exact Obl.skip 29 false (undef) rfl (by kernel_rfl) (by kernel_rfl) (by kernel_rfl) (by kernel_rfl) (fun w => holds_undef (by kernel_rfl))
  · exact Obl.skip 25 true (.bool false) rfl (by kernel_rfl) (by kernel_rfl) (by kernel_rfl) (by kernel_rfl) (fun w => holds_undef (by kernel_rfl))
  · exact Obl.pick ⟨by kernel_rfl, by kernel_rfl, by kernel_rfl⟩ _ _ _ rfl false (by kernel_rfl) (by kernel_rfl)
  · exact Obl.pick trivial _ _ _ rfl false (by kernel_rfl) (by kernel_rfl)
  · exact Obl.move trivial _ (Or.inl rfl) (by kernel_rfl)
  · exact Obl.pure ⟨by kernel_rfl, by kernel_rfl, by kernel_rfl⟩ (.pointer (some ⟨L, 5, none⟩)) (by kernel_rfl) (fun ev w hb hx => by
      have e1 : ev (.tmp 1) = .pointer (some ⟨L, 0, none⟩) := holds_val (hx (.tmp 1)) (by kernel_rfl)
      simp [execOp, e1, go_sem])
  · exact Obl.pure ⟨by kernel_rfl, by kernel_rfl, by kernel_rfl⟩ (.int .i64 0) (by kernel_rfl) (fun ev w hb hx => by
      have e121 : ev (.tmp 121) = .pointer (some ⟨L, 5, none⟩) := holds_val (hx (.tmp 121)) (by kernel_rfl)
      (have m5 := (hb.cell (p := ⟨L, 5, none⟩) hz).trans k5; simp [execOp, e121, go_sem, m5]))
  · exact Obl.bin ⟨by kernel_rfl, by kernel_rfl, by kernel_rfl⟩ .lss _ (.tmp 122) (.const (.int .i64 0)) _ rfl (.int .i64 0) (.int .i64 0) (.bool false) (by kernel_rfl) (by kernel_rfl) (fun w => by simp [eqGuard, go_sem]; try omega) (by kernel_rfl)
  · exact Obl.pick trivial _ _ _ rfl false (by kernel_rfl) (by kernel_rfl)
  · exact Obl.move trivial _ (Or.inl rfl) (by kernel_rfl)
  · exact Obl.pure ⟨by kernel_rfl, by kernel_rfl, by kernel_rfl⟩ (.pointer (some ⟨L, 5, none⟩)) (by kernel_rfl) (fun ev w hb hx => by
      have e1 : ev (.tmp 1) = .pointer (some ⟨L, 0, none⟩) := holds_val (hx (.tmp 1)) (by kernel_rfl)
      simp [execOp, e1, go_sem])
  · exact Obl.pure ⟨by kernel_rfl, by kernel_rfl, by kernel_rfl⟩ (.int .i64 0) (by kernel_rfl) (fun ev w hb hx => by
      have e126 : ev (.tmp 126) = .pointer (some ⟨L, 5, none⟩) := holds_val (hx (.tmp 126)) (by kernel_rfl)
      (have m5 := (hb.cell (p := ⟨L, 5, none⟩) hz).trans k5; simp [execOp, e126, go_sem, m5]))
  · exact Obl.bin ⟨by kernel_rfl, by kernel_rfl, by kernel_rfl⟩ .gtr _ (.tmp 127) (.const (.int .i64 3)) _ rfl (.int .i64 0) (.int .i64 3) (.bool false) (by kernel_rfl) (by kernel_rfl) (fun w => by simp [eqGuard, go_sem]; try omega) (by kernel_rfl)
  · exact Obl.pick trivial _ _ _ rfl false (by kernel_rfl) (by kernel_rfl)
  · exact Obl.move trivial _ (Or.inl rfl) (by kernel_rfl)
  · exact Obl.pure ⟨by kernel_rfl, by kernel_rfl, by kernel_rfl⟩ (.pointer (some ⟨L, 6, none⟩)) (by kernel_rfl) (fun ev w hb hx => by
      have e1 : ev (.tmp 1) = .pointer (some ⟨L, 0, none⟩) := holds_val (hx (.tmp 1)) (by kernel_rfl)
      simp [execOp, e1, go_sem])
  · exact Obl.pure ⟨by kernel_rfl, by kernel_rfl, by kernel_rfl⟩ (.int .i64 0) (by kernel_rfl) (fun ev w hb hx => by
      have e131 : ev (.tmp 131) = .pointer (some ⟨L, 6, none⟩) := holds_val (hx (.tmp 131)) (by kernel_rfl)
      (have m6 := (hb.cell (p := ⟨L, 6, none⟩) hz).trans k6; simp [execOp, e131, go_sem, m6]))
  · exact Obl.bin ⟨by kernel_rfl, by kernel_rfl, by kernel_rfl⟩ .lss _ (.tmp 132) (.const (.int .i64 0)) _ rfl (.int .i64 0) (.int .i64 0) (.bool false) (by kernel_rfl) (by kernel_rfl) (fun w => by simp [eqGuard, go_sem]; try omega) (by kernel_rfl)
  · exact Obl.pick trivial _ _ _ rfl false (by kernel_rfl) (by kernel_rfl)
  · exact Obl.move trivial _ (Or.inl rfl) (by kernel_rfl)
  · exact Obl.pure ⟨by kernel_rfl, by kernel_rfl, by kernel_rfl⟩ (.pointer (some ⟨L, 6, none⟩)) (by kernel_rfl) (fun ev w hb hx => by
      have e1 : ev (.tmp 1) = .pointer (some ⟨L, 0, none⟩) := holds_val (hx (.tmp 1)) (by kernel_rfl)
      simp [execOp, e1, go_sem])
  · exact Obl.pure ⟨by kernel_rfl, by kernel_rfl, by kernel_rfl⟩ (.int .i64 0) (by kernel_rfl) (fun ev w hb hx => by
      have e136 : ev (.tmp 136) = .pointer (some ⟨L, 6, none⟩) := holds_val (hx (.tmp 136)) (by kernel_rfl)
      (have m6 := (hb.cell (p := ⟨L, 6, none⟩) hz).trans k6; simp [execOp, e136, go_sem, m6]))
  · exact Obl.bin ⟨by kernel_rfl, by kernel_rfl, by kernel_rfl⟩ .geq _ (.tmp 137) (.const (.int .i64 3)) _ rfl (.int .i64 0) (.int .i64 3) (.bool false) (by kernel_rfl) (by kernel_rfl) (fun w => by simp [eqGuard, go_sem]; try omega) (by kernel_rfl)
  · exact Obl.pick trivial _ _ _ rfl false (by kernel_rfl) (by kernel_rfl)
  · exact Obl.move trivial _ (Or.inl rfl) (by kernel_rfl)
  · exact Obl.pure ⟨by kernel_rfl, by kernel_rfl, by kernel_rfl⟩ (.pointer (some ⟨L, 7, none⟩)) (by kernel_rfl) (fun ev w hb hx => by
      have e1 : ev (.tmp 1) = .pointer (some ⟨L, 0, none⟩) := holds_val (hx (.tmp 1)) (by kernel_rfl)
      simp [execOp, e1, go_sem])
  · exact Obl.pure ⟨by kernel_rfl, by kernel_rfl, by kernel_rfl⟩ (.int .i64 0) (by kernel_rfl) (fun ev w hb hx => by
      have e141 : ev (.tmp 141) = .pointer (some ⟨L, 7, none⟩) := holds_val (hx (.tmp 141)) (by kernel_rfl)
      (have m7 := (hb.cell (p := ⟨L, 7, none⟩) hz).trans k7; simp [execOp, e141, go_sem, m7]))
  · exact Obl.bin ⟨by kernel_rfl, by kernel_rfl, by kernel_rfl⟩ .lss _ (.tmp 142) (.const (.int .i64 0)) _ rfl (.int .i64 0) (.int .i64 0) (.bool false) (by kernel_rfl) (by kernel_rfl) (fun w => by simp [eqGuard, go_sem]; try omega) (by kernel_rfl)
  · exact Obl.pick trivial _ _ _ rfl false (by kernel_rfl) (by kernel_rfl)
  · exact Obl.move trivial _ (Or.inl rfl) (by kernel_rfl)
  · exact Obl.pure ⟨by kernel_rfl, by kernel_rfl, by kernel_rfl⟩ (.pointer (some ⟨L, 7, none⟩)) (by kernel_rfl) (fun ev w hb hx => by
      have e1 : ev (.tmp 1) = .pointer (some ⟨L, 0, none⟩) := holds_val (hx (.tmp 1)) (by kernel_rfl)
      simp [execOp, e1, go_sem])
  · exact Obl.pure ⟨by kernel_rfl, by kernel_rfl, by kernel_rfl⟩ (.int .i64 0) (by kernel_rfl) (fun ev w hb hx => by
      have e146 : ev (.tmp 146) = .pointer (some ⟨L, 7, none⟩) := holds_val (hx (.tmp 146)) (by kernel_rfl)
      (have m7 := (hb.cell (p := ⟨L, 7, none⟩) hz).trans k7; simp [execOp, e146, go_sem, m7]))
  · exact Obl.bin ⟨by kernel_rfl, by kernel_rfl, by kernel_rfl⟩ .gtr _ (.tmp 147) (.const (.int .i64 255)) _ rfl (.int .i64 0) (.int .i64 255) (.bool false) (by kernel_rfl) (by kernel_rfl) (fun w => by simp [eqGuard, go_sem]; try omega) (by kernel_rfl)
  · exact Obl.pick trivial _ _ _ rfl false (by kernel_rfl) (by kernel_rfl)
  intro a WR hb hsz hdf hold hv
  have ha := act_puts [84, 85, 86, 87, 88, 89, 90, 91, 92, 93, 94, 95, 96, 97, 98, 99, 100, 101, 102, 103, 104, 105, 106, 107, 108, 109, 110, 111, 112, 113, 114, 115, 116, 117, 118, 119, 120, 121, 122, 123, 124, 125, 126, 127, 128, 129, 130, 131, 132, 133, 134, 135, 136, 137, 138, 139, 140, 141, 142, 143, 144, 145, 146, 147, 148, 149] (by kernel_rfl) hsz hdf hold
  simp only [putAll] at ha
  have z149 : a.tmps.getD 149 undef = .bool false := holds_val (hv 65 149 (by kernel_rfl)) (by kernel_rfl)
  rw [z149] at ha
  generalize a.tmps.getD 84 undef = x84 at ha
  generalize a.tmps.getD 85 undef = x85 at ha
  generalize a.tmps.getD 86 undef = x86 at ha
  generalize a.tmps.getD 87 undef = x87 at ha
  generalize a.tmps.getD 88 undef = x88 at ha
  generalize a.tmps.getD 89 undef = x89 at ha
  generalize a.tmps.getD 90 undef = x90 at ha
  generalize a.tmps.getD 91 undef = x91 at ha
  generalize a.tmps.getD 92 undef = x92 at ha
  generalize a.tmps.getD 93 undef = x93 at ha
  generalize a.tmps.getD 94 undef = x94 at ha
  generalize a.tmps.getD 95 undef = x95 at ha
  generalize a.tmps.getD 96 undef = x96 at ha
  generalize a.tmps.getD 97 undef = x97 at ha
  generalize a.tmps.getD 98 undef = x98 at ha
  generalize a.tmps.getD 99 undef = x99 at ha
  generalize a.tmps.getD 100 undef = x100 at ha
  generalize a.tmps.getD 101 undef = x101 at ha
  generalize a.tmps.getD 102 undef = x102 at ha
  generalize a.tmps.getD 103 undef = x103 at ha
  generalize a.tmps.getD 104 undef = x104 at ha
  generalize a.tmps.getD 105 undef = x105 at ha
  generalize a.tmps.getD 106 undef = x106 at ha
  generalize a.tmps.getD 107 undef = x107 at ha
  generalize a.tmps.getD 108 undef = x108 at ha
  generalize a.tmps.getD 109 undef = x109 at ha
  generalize a.tmps.getD 110 undef = x110 at ha
  generalize a.tmps.getD 111 undef = x111 at ha
  generalize a.tmps.getD 112 undef = x112 at ha
  generalize a.tmps.getD 113 undef = x113 at ha
  generalize a.tmps.getD 114 undef = x114 at ha
  generalize a.tmps.getD 115 undef = x115 at ha
  generalize a.tmps.getD 116 undef = x116 at ha
  generalize a.tmps.getD 117 undef = x117 at ha
  generalize a.tmps.getD 118 undef = x118 at ha
  generalize a.tmps.getD 119 undef = x119 at ha
  generalize a.tmps.getD 120 undef = x120 at ha
  generalize a.tmps.getD 121 undef = x121 at ha
  generalize a.tmps.getD 122 undef = x122 at ha
  generalize a.tmps.getD 123 undef = x123 at ha
  generalize a.tmps.getD 124 undef = x124 at ha
  generalize a.tmps.getD 125 undef = x125 at ha
  generalize a.tmps.getD 126 undef = x126 at ha
  generalize a.tmps.getD 127 undef = x127 at ha
  generalize a.tmps.getD 128 undef = x128 at ha
  generalize a.tmps.getD 129 undef = x129 at ha
  generalize a.tmps.getD 130 undef = x130 at ha
  generalize a.tmps.getD 131 undef = x131 at ha
  generalize a.tmps.getD 132 undef = x132 at ha
  generalize a.tmps.getD 133 undef = x133 at ha
  generalize a.tmps.getD 134 undef = x134 at ha
  generalize a.tmps.getD 135 undef = x135 at ha
  generalize a.tmps.getD 136 undef = x136 at ha
  generalize a.tmps.getD 137 undef = x137 at ha
  generalize a.tmps.getD 138 undef = x138 at ha
  generalize a.tmps.getD 139 undef = x139 at ha
  generalize a.tmps.getD 140 undef = x140 at ha
  generalize a.tmps.getD 141 undef = x141 at ha
  generalize a.tmps.getD 142 undef = x142 at ha
  generalize a.tmps.getD 143 undef = x143 at ha
  generalize a.tmps.getD 144 undef = x144 at ha
  generalize a.tmps.getD 145 undef = x145 at ha
  generalize a.tmps.getD 146 undef = x146 at ha
  generalize a.tmps.getD 147 undef = x147 at ha
  generalize a.tmps.getD 148 undef = x148 at ha
  clear hv hold hsz hdf z149
  subst ha
  simp only [Act.put, List.setIfInBounds_toArray, List.set_cons_succ, List.set_cons_zero]
  have b2 := b2.trans (hb.mono (by have := HLL.out; omega))
  clear hb k0 k1 k2 k3 k4 k5 k6 k7
  go_wp2_with fail
  refine (ref8_in_l (hasS 2) _ (hasS_size 2)).mono ?_
  rintro e w' ⟨rfl, rfl⟩
  go_wp2_with fail
  go_ret
  exact ⟨rfl, HLL.out ▸ b2⟩
set_option maxHeartbeats 8000000 in
theorem right8_3  (n : Nat) (A : Option Addr) (c : Nat) (w : World) (hL : ∀ W : World, Below w.heap.size w W → Calls Try.prog 47 #[.slice A n c] W (Ans (.int .i64 0) W)) : Calls Try.prog 28 #[.agg #[.int .i64 3, .int .i64 0, .slice A n c, .int .i64 0, .int .i64 0, .int .i64 0, .int .i64 0, .int .i64 0]] w (Ans (.int .i64 0) w) := by
  have ic : inS8 (hasS 3) 99 = false := by decide
  have il : inS8 (hasS 3) 108 = true := by decide
  have ip : inS8 (hasS 3) 112 = false := by decide
  have ih : inS8 (hasS 3) 104 = false := by decide
  have ik : inS8 (hasS 3) 107 = false := by decide
  have iy : inS8 (hasS 3) 121 = false := by decide
  have ie : inS8 (hasS 3) 101 = false := by decide
  have kc := blk8 (Blk.new w 25 #[.int .i64 3, .int .i64 0, .slice A n c, .int .i64 0, .int .i64 0, .int .i64 0, .int .i64 0, .int .i64 0])
  have b0 := below_alloc w (.cells #[.int .i64 3, .int .i64 0, .slice A n c, .int .i64 0, .int .i64 0, .int .i64 0, .int .i64 0, .int .i64 0] 25)
  have hz : w.heap.size < (w.alloc (.cells #[.int .i64 3, .int .i64 0, .slice A n c, .int .i64 0, .int .i64 0, .int .i64 0, .int .i64 0, .int .i64 0] 25)).heap.size := by simp
  go_enter Try.func28, Try.ntmps28
  go_upto_region 1 with (fail)
  generalize w.alloc (.cells #[.int .i64 3, .int .i64 0, .slice A n c, .int .i64 0, .int .i64 0, .int .i64 0, .int .i64 0, .int .i64 0] 25) = W0 at kc b0 hz ⊢
  go_wp2_with fail
  refine (ref8_has 3 (by decide) (by decide) _).mono ?_
  rintro e W1 ⟨rfl, b1⟩
  have k0 := (b1.cell (p := ⟨w.heap.size, 0, none⟩) hz).trans kc.1
  have k1 := (b1.cell (p := ⟨w.heap.size, 1, none⟩) hz).trans kc.2.1
  have k2 := (b1.cell (p := ⟨w.heap.size, 2, none⟩) hz).trans kc.2.2.1
  have k3 := (b1.cell (p := ⟨w.heap.size, 3, none⟩) hz).trans kc.2.2.2.1
  have k4 := (b1.cell (p := ⟨w.heap.size, 4, none⟩) hz).trans kc.2.2.2.2.1
  have k5 := (b1.cell (p := ⟨w.heap.size, 5, none⟩) hz).trans kc.2.2.2.2.2.1
  have k6 := (b1.cell (p := ⟨w.heap.size, 6, none⟩) hz).trans kc.2.2.2.2.2.2.1
  have k7 := (b1.cell (p := ⟨w.heap.size, 7, none⟩) hz).trans kc.2.2.2.2.2.2.2
  have b2 := b0.trans (b1.mono b0.size)
  have hz := Nat.lt_of_lt_of_le hz b1.size
  clear kc b0 b1
  obtain ⟨L, hLL⟩ : ∃ L, L = w.heap.size := ⟨_, rfl⟩
  rw [← hLL] at k0 k1 k2 k3 k4 k5 k6 k7 hz b2
  have HLL := Lib.hid hLL
  go_upto_region 4 with (fail)
  rw [← hLL]
  clear hLL
  have q0 := Lib.hid k0
  have q1 := Lib.hid k1
  have q2 := Lib.hid k2
  have q3 := Lib.hid k3
  have q4 := Lib.hid k4
  have q5 := Lib.hid k5
  have q6 := Lib.hid k6
  have q7 := Lib.hid k7
  refine wp_region_seq [.val (.string (hasS 3)), .val (.bool false), .val (.bool true), .val (.bool true), .val (.pointer (some ⟨L, 1, none⟩)), .val (.int .i64 0), .val (.bool false), .val (.bool false), .val (.bool false), .val (.string (hasS 3)), .val (.bool true), .val (.bool false), .val (.bool false), .val (undef), .val (undef), .val (undef), .val (undef), .val (.bool false), .val (.bool false), .val (.bool false), .val (.string (hasS 3)), .val (.bool false), .val (.bool true), .val (.bool true), .val (.pointer (some ⟨L, 3, none⟩)), .val (.int .i64 0), .val (.bool false), .val (.bool false), .val (.bool false), .val (.bool false), .val (.string (hasS 3)), .val (.bool false), .val (.bool true), .val (.bool true), .val (.pointer (some ⟨L, 4, none⟩)), .val (.int .i64 0), .val (.bool false), .val (.bool false), .val (.bool false), .val (.bool false), .val (.string (hasS 3)), .val (.bool false), .val (.bool true), .val (.bool true), .val (.pointer (some ⟨L, 5, none⟩)), .val (.int .i64 0), .val (.bool false), .val (.bool false), .val (.bool false), .val (.bool false), .val (.string (hasS 3)), .val (.bool false), .val (.bool true), .val (.bool true), .val (.pointer (some ⟨L, 6, none⟩)), .val (.int .i64 0), .val (.bool false), .val (.bool false), .val (.bool false), .val (.bool false), .val (.string (hasS 3)), .val (.bool false), .val (.bool true), .val (.bool true), .val (.pointer (some ⟨L, 7, none⟩)), .val (.int .i64 0), .val (.bool false), .val (.bool false), .val (.bool false)] (by kernel_rfl) (by kernel_rfl) (AllObl.all ⟨?_, ?_, ?_, ?_, ?_, ?_, ?_, ?_, ?_, ?_, ?_, ?_, ?_, ?_, ?_, ?_, ?_, ?_, ?_, ?_, ?_, ?_, ?_, ?_, ?_, ?_, ?_, ?_, ?_, ?_, ?_, ?_, ?_, ?_, ?_, ?_, ?_, ?_, ?_, ?_, ?_, ?_, ?_, ?_, ?_, ?_, ?_, ?_, ?_, ?_, ?_, ?_, ?_, ?_, ?_, ?_, ?_, ?_, ?_, ?_, ?_, ?_, ?_, ?_, ?_, ?_, ?_, ?_, ?_, trivial⟩) ?_
  · exact Obl.move trivial _ (Or.inl rfl) (by kernel_rfl)
  · exact Obl.call trivial 46 #[.tmp 15, .const (.int .u8 99)] _ rfl Try.f46 Try.func46 (by kernel_rfl) (by kernel_rfl) (fun ev w hb hx => by
      have e15 : ev (.tmp 15) = .string (hasS 3) := holds_val (hx (.tmp 15)) (by kernel_rfl)
      have k0 : ev (.const (.int .u8 99)) = (.int .u8 99) := holds_val (hx (.const (.int .u8 99))) (by kernel_rfl)
      simp only [List.map_toArray, List.map_cons, List.map_nil, e15, k0]
      exact (((ref8_in_c (hasS 3) w (hasS_size 3)).mono fun e w' h => still_ans ic h)).mono fun _ _ hh => Val.holds (by kernel_rfl) hh)
  · exact Obl.un trivial .not _ (.tmp 16) rfl (.bool false) (.bool true) (by kernel_rfl) (fun w => by simp [go_sem]) (by kernel_rfl)
  · exact Obl.move trivial _ (Or.inl rfl) (by kernel_rfl)
  · exact Obl.pure ⟨by kernel_rfl, by kernel_rfl, by kernel_rfl⟩ (.pointer (some ⟨L, 1, none⟩)) (by kernel_rfl) (fun ev w hb hx => by
      have e1 : ev (.tmp 1) = .pointer (some ⟨L, 0, none⟩) := holds_val (hx (.tmp 1)) (by kernel_rfl)
      simp [execOp, e1, go_sem])
  · exact Obl.pure ⟨by kernel_rfl, by kernel_rfl, by kernel_rfl⟩ (.int .i64 0) (by kernel_rfl) (fun ev w hb hx => by
      have e19 : ev (.tmp 19) = .pointer (some ⟨L, 1, none⟩) := holds_val (hx (.tmp 19)) (by kernel_rfl)
      (have m1 := (hb.cell (p := ⟨L, 1, none⟩) hz).trans k1; simp [execOp, e19, go_sem, m1]))
  · exact Obl.bin ⟨by kernel_rfl, by kernel_rfl, by kernel_rfl⟩ .neq _ (.tmp 20) (.const (.int .i64 0)) _ rfl (.int .i64 0) (.int .i64 0) (.bool false) (by kernel_rfl) (by kernel_rfl) (fun w => by simp [eqGuard, go_sem]; try omega) (by kernel_rfl)
  · exact Obl.pick trivial _ _ _ rfl true (by kernel_rfl) (by kernel_rfl)
  · exact Obl.move trivial _ (Or.inl rfl) (by kernel_rfl)
  · exact Obl.move ⟨by kernel_rfl, by kernel_rfl, by kernel_rfl⟩ _ (Or.inl rfl) (by kernel_rfl)
  · exact Obl.call ⟨by kernel_rfl, by kernel_rfl, by kernel_rfl⟩ 46 #[.tmp 24, .const (.int .u8 108)] _ rfl Try.f46 Try.func46 (by kernel_rfl) (by kernel_rfl) (fun ev w hb hx => by
      have e24 : ev (.tmp 24) = .string (hasS 3) := holds_val (hx (.tmp 24)) (by kernel_rfl)
      have k0 : ev (.const (.int .u8 108)) = (.int .u8 108) := holds_val (hx (.const (.int .u8 108))) (by kernel_rfl)
      simp only [List.map_toArray, List.map_cons, List.map_nil, e24, k0]
      exact (((ref8_in_l (hasS 3) w (hasS_size 3)).mono fun e w' h => still_ans il h)).mono fun _ _ hh => Val.holds (by kernel_rfl) hh)
  · exact Obl.un ⟨by kernel_rfl, by kernel_rfl, by kernel_rfl⟩ .not _ (.tmp 25) rfl (.bool true) (.bool false) (by kernel_rfl) (fun w => by simp [go_sem]) (by kernel_rfl)
  · exact Obl.move ⟨by kernel_rfl, by kernel_rfl, by kernel_rfl⟩ _ (Or.inl rfl) (by kernel_rfl)
  · exact Obl.skip 12 true (.bool false) rfl (by kernel_rfl) (by kernel_rfl) (by kernel_rfl) (by kernel_rfl) (fun w => holds_undef (by kernel_rfl))
  · exact Obl.skip 12 true (.bool false) rfl (by kernel_rfl) (by kernel_rfl) (by kernel_rfl) (by kernel_rfl) (fun w => holds_undef (by kernel_rfl))
  · exact Obl.skip 12 true (.bool false) rfl (by kernel_rfl) (by kernel_rfl) (by kernel_rfl) (by kernel_rfl) (fun w => holds_undef (by kernel_rfl))
  · exact Obl.skip 12 true (.bool false) rfl (by kernel_rfl) (by kernel_rfl) (by kernel_rfl) (by kernel_rfl) (fun w => holds_undef (by kernel_rfl))
  · exact Obl.pick ⟨by kernel_rfl, by kernel_rfl, by kernel_rfl⟩ _ _ _ rfl false (by kernel_rfl) (by kernel_rfl)
  · exact Obl.pick trivial _ _ _ rfl false (by kernel_rfl) (by kernel_rfl)
  · exact Obl.move trivial _ (Or.inl rfl) (by kernel_rfl)
  · exact Obl.move ⟨by kernel_rfl, by kernel_rfl, by kernel_rfl⟩ _ (Or.inl rfl) (by kernel_rfl)
  · exact Obl.call ⟨by kernel_rfl, by kernel_rfl, by kernel_rfl⟩ 46 #[.tmp 35, .const (.int .u8 112)] _ rfl Try.f46 Try.func46 (by kernel_rfl) (by kernel_rfl) (fun ev w hb hx => by
      have e35 : ev (.tmp 35) = .string (hasS 3) := holds_val (hx (.tmp 35)) (by kernel_rfl)
      have k0 : ev (.const (.int .u8 112)) = (.int .u8 112) := holds_val (hx (.const (.int .u8 112))) (by kernel_rfl)
      simp only [List.map_toArray, List.map_cons, List.map_nil, e35, k0]
      exact (((ref8_in_p (hasS 3) w (hasS_size 3)).mono fun e w' h => still_ans ip h)).mono fun _ _ hh => Val.holds (by kernel_rfl) hh)
  · exact Obl.un ⟨by kernel_rfl, by kernel_rfl, by kernel_rfl⟩ .not _ (.tmp 36) rfl (.bool false) (.bool true) (by kernel_rfl) (fun w => by simp [go_sem]) (by kernel_rfl)
  · exact Obl.move ⟨by kernel_rfl, by kernel_rfl, by kernel_rfl⟩ _ (Or.inl rfl) (by kernel_rfl)
  · exact Obl.pure ⟨by kernel_rfl, by kernel_rfl, by kernel_rfl⟩ (.pointer (some ⟨L, 3, none⟩)) (by kernel_rfl) (fun ev w hb hx => by
      have e1 : ev (.tmp 1) = .pointer (some ⟨L, 0, none⟩) := holds_val (hx (.tmp 1)) (by kernel_rfl)
      simp [execOp, e1, go_sem])
  · exact Obl.pure ⟨by kernel_rfl, by kernel_rfl, by kernel_rfl⟩ (.int .i64 0) (by kernel_rfl) (fun ev w hb hx => by
      have e39 : ev (.tmp 39) = .pointer (some ⟨L, 3, none⟩) := holds_val (hx (.tmp 39)) (by kernel_rfl)
      (have m3 := (hb.cell (p := ⟨L, 3, none⟩) hz).trans k3; simp [execOp, e39, go_sem, m3]))
  · exact Obl.bin ⟨by kernel_rfl, by kernel_rfl, by kernel_rfl⟩ .neq _ (.tmp 40) (.const (.int .i64 0)) _ rfl (.int .i64 0) (.int .i64 0) (.bool false) (by kernel_rfl) (by kernel_rfl) (fun w => by simp [eqGuard, go_sem]; try omega) (by kernel_rfl)
  · exact Obl.pick ⟨by kernel_rfl, by kernel_rfl, by kernel_rfl⟩ _ _ _ rfl true (by kernel_rfl) (by kernel_rfl)
  · exact Obl.pick trivial _ _ _ rfl false (by kernel_rfl) (by kernel_rfl)
  · exact Obl.move trivial _ (Or.inl rfl) (by kernel_rfl)
  · exact Obl.move ⟨by kernel_rfl, by kernel_rfl, by kernel_rfl⟩ _ (Or.inl rfl) (by kernel_rfl)
  · exact Obl.call ⟨by kernel_rfl, by kernel_rfl, by kernel_rfl⟩ 46 #[.tmp 45, .const (.int .u8 104)] _ rfl Try.f46 Try.func46 (by kernel_rfl) (by kernel_rfl) (fun ev w hb hx => by
      have e45 : ev (.tmp 45) = .string (hasS 3) := holds_val (hx (.tmp 45)) (by kernel_rfl)
      have k0 : ev (.const (.int .u8 104)) = (.int .u8 104) := holds_val (hx (.const (.int .u8 104))) (by kernel_rfl)
      simp only [List.map_toArray, List.map_cons, List.map_nil, e45, k0]
      exact (((ref8_in_h (hasS 3) w (hasS_size 3)).mono fun e w' h => still_ans ih h)).mono fun _ _ hh => Val.holds (by kernel_rfl) hh)
  · exact Obl.un ⟨by kernel_rfl, by kernel_rfl, by kernel_rfl⟩ .not _ (.tmp 46) rfl (.bool false) (.bool true) (by kernel_rfl) (fun w => by simp [go_sem]) (by kernel_rfl)
  · exact Obl.move ⟨by kernel_rfl, by kernel_rfl, by kernel_rfl⟩ _ (Or.inl rfl) (by kernel_rfl)
  · exact Obl.pure ⟨by kernel_rfl, by kernel_rfl, by kernel_rfl⟩ (.pointer (some ⟨L, 4, none⟩)) (by kernel_rfl) (fun ev w hb hx => by
      have e1 : ev (.tmp 1) = .pointer (some ⟨L, 0, none⟩) := holds_val (hx (.tmp 1)) (by kernel_rfl)
      simp [execOp, e1, go_sem])
  · exact Obl.pure ⟨by kernel_rfl, by kernel_rfl, by kernel_rfl⟩ (.int .i64 0) (by kernel_rfl) (fun ev w hb hx => by
      have e49 : ev (.tmp 49) = .pointer (some ⟨L, 4, none⟩) := holds_val (hx (.tmp 49)) (by kernel_rfl)
      (have m4 := (hb.cell (p := ⟨L, 4, none⟩) hz).trans k4; simp [execOp, e49, go_sem, m4]))
  · exact Obl.bin ⟨by kernel_rfl, by kernel_rfl, by kernel_rfl⟩ .neq _ (.tmp 50) (.const (.int .i64 0)) _ rfl (.int .i64 0) (.int .i64 0) (.bool false) (by kernel_rfl) (by kernel_rfl) (fun w => by simp [eqGuard, go_sem]; try omega) (by kernel_rfl)
  · exact Obl.pick ⟨by kernel_rfl, by kernel_rfl, by kernel_rfl⟩ _ _ _ rfl true (by kernel_rfl) (by kernel_rfl)
  · exact Obl.pick trivial _ _ _ rfl false (by kernel_rfl) (by kernel_rfl)
  · exact Obl.move trivial _ (Or.inl rfl) (by kernel_rfl)
  · exact Obl.move ⟨by kernel_rfl, by kernel_rfl, by kernel_rfl⟩ _ (Or.inl rfl) (by kernel_rfl)
  · exact Obl.call ⟨by kernel_rfl, by kernel_rfl, by kernel_rfl⟩ 46 #[.tmp 55, .const (.int .u8 107)] _ rfl Try.f46 Try.func46 (by kernel_rfl) (by kernel_rfl) (fun ev w hb hx => by
      have e55 : ev (.tmp 55) = .string (hasS 3) := holds_val (hx (.tmp 55)) (by kernel_rfl)
      have k0 : ev (.const (.int .u8 107)) = (.int .u8 107) := holds_val (hx (.const (.int .u8 107))) (by kernel_rfl)
      simp only [List.map_toArray, List.map_cons, List.map_nil, e55, k0]
      exact (((ref8_in_k (hasS 3) w (hasS_size 3)).mono fun e w' h => still_ans ik h)).mono fun _ _ hh => Val.holds (by kernel_rfl) hh)
  · exact Obl.un ⟨by kernel_rfl, by kernel_rfl, by kernel_rfl⟩ .not _ (.tmp 56) rfl (.bool false) (.bool true) (by kernel_rfl) (fun w => by simp [go_sem]) (by kernel_rfl)
  · exact Obl.move ⟨by kernel_rfl, by kernel_rfl, by kernel_rfl⟩ _ (Or.inl rfl) (by kernel_rfl)
  · exact Obl.pure ⟨by kernel_rfl, by kernel_rfl, by kernel_rfl⟩ (.pointer (some ⟨L, 5, none⟩)) (by kernel_rfl) (fun ev w hb hx => by
      have e1 : ev (.tmp 1) = .pointer (some ⟨L, 0, none⟩) := holds_val (hx (.tmp 1)) (by kernel_rfl)
      simp [execOp, e1, go_sem])
  · exact Obl.pure ⟨by kernel_rfl, by kernel_rfl, by kernel_rfl⟩ (.int .i64 0) (by kernel_rfl) (fun ev w hb hx => by
      have e59 : ev (.tmp 59) = .pointer (some ⟨L, 5, none⟩) := holds_val (hx (.tmp 59)) (by kernel_rfl)
      (have m5 := (hb.cell (p := ⟨L, 5, none⟩) hz).trans k5; simp [execOp, e59, go_sem, m5]))
  · exact Obl.bin ⟨by kernel_rfl, by kernel_rfl, by kernel_rfl⟩ .neq _ (.tmp 60) (.const (.int .i64 0)) _ rfl (.int .i64 0) (.int .i64 0) (.bool false) (by kernel_rfl) (by kernel_rfl) (fun w => by simp [eqGuard, go_sem]; try omega) (by kernel_rfl)
  · exact Obl.pick ⟨by kernel_rfl, by kernel_rfl, by kernel_rfl⟩ _ _ _ rfl true (by kernel_rfl) (by kernel_rfl)
  · exact Obl.pick trivial _ _ _ rfl false (by kernel_rfl) (by kernel_rfl)
  · exact Obl.move trivial _ (Or.inl rfl) (by kernel_rfl)
  · exact Obl.move ⟨by kernel_rfl, by kernel_rfl, by kernel_rfl⟩ _ (Or.inl rfl) (by kernel_rfl)
  · exact Obl.call ⟨by kernel_rfl, by kernel_rfl, by kernel_rfl⟩ 46 #[.tmp 65, .const (.int .u8 121)] _ rfl Try.f46 Try.func46 (by kernel_rfl) (by kernel_rfl) (fun ev w hb hx => by
      have e65 : ev (.tmp 65) = .string (hasS 3) := holds_val (hx (.tmp 65)) (by kernel_rfl)
      have k0 : ev (.const (.int .u8 121)) = (.int .u8 121) := holds_val (hx (.const (.int .u8 121))) (by kernel_rfl)
      simp only [List.map_toArray, List.map_cons, List.map_nil, e65, k0]
      exact (((ref8_in_y (hasS 3) w (hasS_size 3)).mono fun e w' h => still_ans iy h)).mono fun _ _ hh => Val.holds (by kernel_rfl) hh)
  · exact Obl.un ⟨by kernel_rfl, by kernel_rfl, by kernel_rfl⟩ .not _ (.tmp 66) rfl (.bool false) (.bool true) (by kernel_rfl) (fun w => by simp [go_sem]) (by kernel_rfl)
  · exact Obl.move ⟨by kernel_rfl, by kernel_rfl, by kernel_rfl⟩ _ (Or.inl rfl) (by kernel_rfl)
  · exact Obl.pure ⟨by kernel_rfl, by kernel_rfl, by kernel_rfl⟩ (.pointer (some ⟨L, 6, none⟩)) (by kernel_rfl) (fun ev w hb hx => by
      have e1 : ev (.tmp 1) = .pointer (some ⟨L, 0, none⟩) := holds_val (hx (.tmp 1)) (by kernel_rfl)
      simp [execOp, e1, go_sem])
  · exact Obl.pure ⟨by kernel_rfl, by kernel_rfl, by kernel_rfl⟩ (.int .i64 0) (by kernel_rfl) (fun ev w hb hx => by
      have e69 : ev (.tmp 69) = .pointer (some ⟨L, 6, none⟩) := holds_val (hx (.tmp 69)) (by kernel_rfl)
      (have m6 := (hb.cell (p := ⟨L, 6, none⟩) hz).trans k6; simp [execOp, e69, go_sem, m6]))
  · exact Obl.bin ⟨by kernel_rfl, by kernel_rfl, by kernel_rfl⟩ .neq _ (.tmp 70) (.const (.int .i64 0)) _ rfl (.int .i64 0) (.int .i64 0) (.bool false) (by kernel_rfl) (by kernel_rfl) (fun w => by simp [eqGuard, go_sem]; try omega) (by kernel_rfl)
  · exact Obl.pick ⟨by kernel_rfl, by kernel_rfl, by kernel_rfl⟩ _ _ _ rfl true (by kernel_rfl) (by kernel_rfl)
  · exact Obl.pick trivial _ _ _ rfl false (by kernel_rfl) (by kernel_rfl)
  · exact Obl.move trivial _ (Or.inl rfl) (by kernel_rfl)
  · exact Obl.move ⟨by kernel_rfl, by kernel_rfl, by kernel_rfl⟩ _ (Or.inl rfl) (by kernel_rfl)
  · exact Obl.call ⟨by kernel_rfl, by kernel_rfl, by kernel_rfl⟩ 46 #[.tmp 75, .const (.int .u8 101)] _ rfl Try.f46 Try.func46 (by kernel_rfl) (by kernel_rfl) (fun ev w hb hx => by
      have e75 : ev (.tmp 75) = .string (hasS 3) := holds_val (hx (.tmp 75)) (by kernel_rfl)
      have k0 : ev (.const (.int .u8 101)) = (.int .u8 101) := holds_val (hx (.const (.int .u8 101))) (by kernel_rfl)
      simp only [List.map_toArray, List.map_cons, List.map_nil, e75, k0]
      exact (((ref8_in_e (hasS 3) w (hasS_size 3)).mono fun e w' h => still_ans ie h)).mono fun _ _ hh => Val.holds (by kernel_rfl) hh)
  · exact Obl.un ⟨by kernel_rfl, by kernel_rfl, by kernel_rfl⟩ .not _ (.tmp 76) rfl (.bool false) (.bool true) (by kernel_rfl) (fun w => by simp [go_sem]) (by kernel_rfl)
  · exact Obl.move ⟨by kernel_rfl, by kernel_rfl, by kernel_rfl⟩ _ (Or.inl rfl) (by kernel_rfl)
  · exact Obl.pure ⟨by kernel_rfl, by kernel_rfl, by kernel_rfl⟩ (.pointer (some ⟨L, 7, none⟩)) (by kernel_rfl) (fun ev w hb hx => by
      have e1 : ev (.tmp 1) = .pointer (some ⟨L, 0, none⟩) := holds_val (hx (.tmp 1)) (by kernel_rfl)
      simp [execOp, e1, go_sem])
  · exact Obl.pure ⟨by kernel_rfl, by kernel_rfl, by kernel_rfl⟩ (.int .i64 0) (by kernel_rfl) (fun ev w hb hx => by
      have e79 : ev (.tmp 79) = .pointer (some ⟨L, 7, none⟩) := holds_val (hx (.tmp 79)) (by kernel_rfl)
      (have m7 := (hb.cell (p := ⟨L, 7, none⟩) hz).trans k7; simp [execOp, e79, go_sem, m7]))
  · exact Obl.bin ⟨by kernel_rfl, by kernel_rfl, by kernel_rfl⟩ .neq _ (.tmp 80) (.const (.int .i64 0)) _ rfl (.int .i64 0) (.int .i64 0) (.bool false) (by kernel_rfl) (by kernel_rfl) (fun w => by simp [eqGuard, go_sem]; try omega) (by kernel_rfl)
  · exact Obl.pick ⟨by kernel_rfl, by kernel_rfl, by kernel_rfl⟩ _ _ _ rfl true (by kernel_rfl) (by kernel_rfl)
  · exact Obl.pick trivial _ _ _ rfl false (by kernel_rfl) (by kernel_rfl)
  intro a WR hb hsz hdf hold hv
  have ha := act_puts [15, 16, 17, 18, 19, 20, 21, 22, 23, 24, 25, 26, 27, 28, 29, 30, 31, 32, 33, 34, 35, 36, 37, 38, 39, 40, 41, 42, 43, 44, 45, 46, 47, 48, 49, 50, 51, 52, 53, 54, 55, 56, 57, 58, 59, 60, 61, 62, 63, 64, 65, 66, 67, 68, 69, 70, 71, 72, 73, 74, 75, 76, 77, 78, 79, 80, 81, 82, 83] (by kernel_rfl) hsz hdf hold
  simp only [putAll] at ha
  have z83 : a.tmps.getD 83 undef = .bool false := holds_val (hv 68 83 (by kernel_rfl)) (by kernel_rfl)
  rw [z83] at ha
  generalize a.tmps.getD 15 undef = x15 at ha
  generalize a.tmps.getD 16 undef = x16 at ha
  generalize a.tmps.getD 17 undef = x17 at ha
  generalize a.tmps.getD 18 undef = x18 at ha
  generalize a.tmps.getD 19 undef = x19 at ha
  generalize a.tmps.getD 20 undef = x20 at ha
  generalize a.tmps.getD 21 undef = x21 at ha
  generalize a.tmps.getD 22 undef = x22 at ha
  generalize a.tmps.getD 23 undef = x23 at ha
  generalize a.tmps.getD 24 undef = x24 at ha
  generalize a.tmps.getD 25 undef = x25 at ha
  generalize a.tmps.getD 26 undef = x26 at ha
  generalize a.tmps.getD 27 undef = x27 at ha
  generalize a.tmps.getD 28 undef = x28 at ha
  generalize a.tmps.getD 29 undef = x29 at ha
  generalize a.tmps.getD 30 undef = x30 at ha
  generalize a.tmps.getD 31 undef = x31 at ha
  generalize a.tmps.getD 32 undef = x32 at ha
  generalize a.tmps.getD 33 undef = x33 at ha
  generalize a.tmps.getD 34 undef = x34 at ha
  generalize a.tmps.getD 35 undef = x35 at ha
  generalize a.tmps.getD 36 undef = x36 at ha
  generalize a.tmps.getD 37 undef = x37 at ha
  generalize a.tmps.getD 38 undef = x38 at ha
  generalize a.tmps.getD 39 undef = x39 at ha
  generalize a.tmps.getD 40 undef = x40 at ha
  generalize a.tmps.getD 41 undef = x41 at ha
  generalize a.tmps.getD 42 undef = x42 at ha
  generalize a.tmps.getD 43 undef = x43 at ha
  generalize a.tmps.getD 44 undef = x44 at ha
  generalize a.tmps.getD 45 undef = x45 at ha
  generalize a.tmps.getD 46 undef = x46 at ha
  generalize a.tmps.getD 47 undef = x47 at ha
  generalize a.tmps.getD 48 undef = x48 at ha
  generalize a.tmps.getD 49 undef = x49 at ha
  generalize a.tmps.getD 50 undef = x50 at ha
  generalize a.tmps.getD 51 undef = x51 at ha
  generalize a.tmps.getD 52 undef = x52 at ha
  generalize a.tmps.getD 53 undef = x53 at ha
  generalize a.tmps.getD 54 undef = x54 at ha
  generalize a.tmps.getD 55 undef = x55 at ha
  generalize a.tmps.getD 56 undef = x56 at ha
  generalize a.tmps.getD 57 undef = x57 at ha
  generalize a.tmps.getD 58 undef = x58 at ha
  generalize a.tmps.getD 59 undef = x59 at ha
  generalize a.tmps.getD 60 undef = x60 at ha
  generalize a.tmps.getD 61 undef = x61 at ha
  generalize a.tmps.getD 62 undef = x62 at ha
  generalize a.tmps.getD 63 undef = x63 at ha
  generalize a.tmps.getD 64 undef = x64 at ha
  generalize a.tmps.getD 65 undef = x65 at ha
  generalize a.tmps.getD 66 undef = x66 at ha
  generalize a.tmps.getD 67 undef = x67 at ha
  generalize a.tmps.getD 68 undef = x68 at ha
  generalize a.tmps.getD 69 undef = x69 at ha
  generalize a.tmps.getD 70 undef = x70 at ha
  generalize a.tmps.getD 71 undef = x71 at ha
  generalize a.tmps.getD 72 undef = x72 at ha
  generalize a.tmps.getD 73 undef = x73 at ha
  generalize a.tmps.getD 74 undef = x74 at ha
  generalize a.tmps.getD 75 undef = x75 at ha
  generalize a.tmps.getD 76 undef = x76 at ha
  generalize a.tmps.getD 77 undef = x77 at ha
  generalize a.tmps.getD 78 undef = x78 at ha
  generalize a.tmps.getD 79 undef = x79 at ha
  generalize a.tmps.getD 80 undef = x80 at ha
  generalize a.tmps.getD 81 undef = x81 at ha
  generalize a.tmps.getD 82 undef = x82 at ha
  clear hv hold hsz hdf z83
  subst ha
  simp only [Act.put, List.setIfInBounds_toArray, List.set_cons_succ, List.set_cons_zero]
  have k0 := (hb.cell (p := ⟨L, 0, none⟩) hz).trans q0.out
  have k1 := (hb.cell (p := ⟨L, 1, none⟩) hz).trans q1.out
  have k2 := (hb.cell (p := ⟨L, 2, none⟩) hz).trans q2.out
  have k3 := (hb.cell (p := ⟨L, 3, none⟩) hz).trans q3.out
  have k4 := (hb.cell (p := ⟨L, 4, none⟩) hz).trans q4.out
  have k5 := (hb.cell (p := ⟨L, 5, none⟩) hz).trans q5.out
  have k6 := (hb.cell (p := ⟨L, 6, none⟩) hz).trans q6.out
  have k7 := (hb.cell (p := ⟨L, 7, none⟩) hz).trans q7.out
  have hz := Nat.lt_of_lt_of_le hz hb.size
  have b2 := b2.trans (hb.mono (by have := HLL.out; omega))
  clear hb
  go_upto_region 6 with (fail)
  refine wp_region_seq [.val (.string (hasS 3)), .val (.bool false), .val (.bool false), .val (undef), .val (undef), .val (undef), .val (undef), .val (undef), .val (undef), .val (undef), .val (undef), .val (.bool false), .val (.bool false), .val (.pointer (some ⟨L, 3, none⟩)), .val (.int .i64 0), .val (.bool false), .val (.bool false), .val (.bool false), .val (.pointer (some ⟨L, 3, none⟩)), .val (.int .i64 0), .val (.bool false), .val (.bool false), .val (.bool false), .val (.string (hasS 3)), .val (.bool false), .val (.bool false), .val (undef), .val (undef), .val (undef), .val (undef), .val (undef), .val (undef), .val (undef), .val (undef), .val (.bool false), .val (.bool false), .val (.bool false), .val (.pointer (some ⟨L, 5, none⟩)), .val (.int .i64 0), .val (.bool false), .val (.bool false), .val (.bool false), .val (.pointer (some ⟨L, 5, none⟩)), .val (.int .i64 0), .val (.bool false), .val (.bool false), .val (.bool false), .val (.pointer (some ⟨L, 6, none⟩)), .val (.int .i64 0), .val (.bool false), .val (.bool false), .val (.bool false), .val (.pointer (some ⟨L, 6, none⟩)), .val (.int .i64 0), .val (.bool false), .val (.bool false), .val (.bool false), .val (.pointer (some ⟨L, 7, none⟩)), .val (.int .i64 0), .val (.bool false), .val (.bool false), .val (.bool false), .val (.pointer (some ⟨L, 7, none⟩)), .val (.int .i64 0), .val (.bool false), .val (.bool false)] (by kernel_rfl) (by kernel_rfl) (AllObl.all ⟨?_, ?_, ?_, ?_, ?_, ?_, ?_, ?_, ?_, ?_, ?_, ?_, ?_, ?_, ?_, ?_, ?_, ?_, ?_, ?_, ?_, ?_, ?_, ?_, ?_, ?_, ?_, ?_, ?_, ?_, ?_, ?_, ?_, ?_, ?_, ?_, ?_, ?_, ?_, ?_, ?_, ?_, ?_, ?_, ?_, ?_, ?_, ?_, ?_, ?_, ?_, ?_, ?_, ?_, ?_, ?_, ?_, ?_, ?_, ?_, ?_, ?_, ?_, ?_, ?_, ?_, trivial⟩) ?_
  · exact Obl.move trivial _ (Or.inl rfl) (by kernel_rfl)
  · exact Obl.call trivial 46 #[.tmp 84, .const (.int .u8 99)] _ rfl Try.f46 Try.func46 (by kernel_rfl) (by kernel_rfl) (fun ev w hb hx => by
      have e84 : ev (.tmp 84) = .string (hasS 3) := holds_val (hx (.tmp 84)) (by kernel_rfl)
      have k0 : ev (.const (.int .u8 99)) = (.int .u8 99) := holds_val (hx (.const (.int .u8 99))) (by kernel_rfl)
      simp only [List.map_toArray, List.map_cons, List.map_nil, e84, k0]
      exact (((ref8_in_c (hasS 3) w (hasS_size 3)).mono fun e w' h => still_ans ic h)).mono fun _ _ hh => Val.holds (by kernel_rfl) hh)
  · exact Obl.move trivial _ (Or.inl rfl) (by kernel_rfl)
  · exact Obl.skip 2 true (.bool false) rfl (by kernel_rfl) (by kernel_rfl) (by kernel_rfl) (by kernel_rfl) (fun w => holds_undef (by kernel_rfl))
  · exact Obl.skip 2 true (.bool false) rfl (by kernel_rfl) (by kernel_rfl) (by kernel_rfl) (by kernel_rfl) (fun w => holds_undef (by kernel_rfl))
  · exact Obl.skip 2 true (.bool false) rfl (by kernel_rfl) (by kernel_rfl) (by kernel_rfl) (by kernel_rfl) (fun w => holds_undef (by kernel_rfl))
  · exact Obl.skip 2 true (.bool false) rfl (by kernel_rfl) (by kernel_rfl) (by kernel_rfl) (by kernel_rfl) (fun w => holds_undef (by kernel_rfl))
  · exact Obl.skip 6 false (undef) rfl (by kernel_rfl) (by kernel_rfl) (by kernel_rfl) (by kernel_rfl) (fun w => holds_undef (by kernel_rfl))
  · exact Obl.skip 6 false (undef) rfl (by kernel_rfl) (by kernel_rfl) (by kernel_rfl) (by kernel_rfl) (fun w => holds_undef (by kernel_rfl))
  · exact Obl.skip 6 false (undef) rfl (by kernel_rfl) (by kernel_rfl) (by kernel_rfl) (by kernel_rfl) (fun w => holds_undef (by kernel_rfl))
  · exact Obl.skip 2 true (.bool false) rfl (by kernel_rfl) (by kernel_rfl) (by kernel_rfl) (by kernel_rfl) (fun w => holds_undef (by kernel_rfl))
  · exact Obl.pick trivial _ _ _ rfl false (by kernel_rfl) (by kernel_rfl)
  · exact Obl.move trivial _ (Or.inl rfl) (by kernel_rfl)
  · exact Obl.pure ⟨by kernel_rfl, by kernel_rfl, by kernel_rfl⟩ (.pointer (some ⟨L, 3, none⟩)) (by kernel_rfl) (fun ev w hb hx => by
      have e1 : ev (.tmp 1) = .pointer (some ⟨L, 0, none⟩) := holds_val (hx (.tmp 1)) (by kernel_rfl)
      simp [execOp, e1, go_sem])
  · exact Obl.pure ⟨by kernel_rfl, by kernel_rfl, by kernel_rfl⟩ (.int .i64 0) (by kernel_rfl) (fun ev w hb hx => by
      have e97 : ev (.tmp 97) = .pointer (some ⟨L, 3, none⟩) := holds_val (hx (.tmp 97)) (by kernel_rfl)
      (have m3 := (hb.cell (p := ⟨L, 3, none⟩) hz).trans k3; simp [execOp, e97, go_sem, m3]))
  · exact Obl.bin ⟨by kernel_rfl, by kernel_rfl, by kernel_rfl⟩ .lss _ (.tmp 98) (.const (.int .i64 0)) _ rfl (.int .i64 0) (.int .i64 0) (.bool false) (by kernel_rfl) (by kernel_rfl) (fun w => by simp [eqGuard, go_sem]; try omega) (by kernel_rfl)
  · exact Obl.pick trivial _ _ _ rfl false (by kernel_rfl) (by kernel_rfl)
  · exact Obl.move trivial _ (Or.inl rfl) (by kernel_rfl)
  · exact Obl.pure ⟨by kernel_rfl, by kernel_rfl, by kernel_rfl⟩ (.pointer (some ⟨L, 3, none⟩)) (by kernel_rfl) (fun ev w hb hx => by
      have e1 : ev (.tmp 1) = .pointer (some ⟨L, 0, none⟩) := holds_val (hx (.tmp 1)) (by kernel_rfl)
      simp [execOp, e1, go_sem])
  · exact Obl.pure ⟨by kernel_rfl, by kernel_rfl, by kernel_rfl⟩ (.int .i64 0) (by kernel_rfl) (fun ev w hb hx => by
      have e102 : ev (.tmp 102) = .pointer (some ⟨L, 3, none⟩) := holds_val (hx (.tmp 102)) (by kernel_rfl)
      (have m3 := (hb.cell (p := ⟨L, 3, none⟩) hz).trans k3; simp [execOp, e102, go_sem, m3]))
  · exact Obl.bin ⟨by kernel_rfl, by kernel_rfl, by kernel_rfl⟩ .geq _ (.tmp 103) (.const (.int .i64 6)) _ rfl (.int .i64 0) (.int .i64 6) (.bool false) (by kernel_rfl) (by kernel_rfl) (fun w => by simp [eqGuard, go_sem]; try omega) (by kernel_rfl)
  · exact Obl.pick trivial _ _ _ rfl false (by kernel_rfl) (by kernel_rfl)
  · exact Obl.move trivial _ (Or.inl rfl) (by kernel_rfl)
  · exact Obl.move ⟨by kernel_rfl, by kernel_rfl, by kernel_rfl⟩ _ (Or.inl rfl) (by kernel_rfl)
  · exact Obl.call ⟨by kernel_rfl, by kernel_rfl, by kernel_rfl⟩ 46 #[.tmp 107, .const (.int .u8 104)] _ rfl Try.f46 Try.func46 (by kernel_rfl) (by kernel_rfl) (fun ev w hb hx => by
      have e107 : ev (.tmp 107) = .string (hasS 3) := holds_val (hx (.tmp 107)) (by kernel_rfl)
      have k0 : ev (.const (.int .u8 104)) = (.int .u8 104) := holds_val (hx (.const (.int .u8 104))) (by kernel_rfl)
      simp only [List.map_toArray, List.map_cons, List.map_nil, e107, k0]
      exact (((ref8_in_h (hasS 3) w (hasS_size 3)).mono fun e w' h => still_ans ih h)).mono fun _ _ hh => Val.holds (by kernel_rfl) hh)
  · exact Obl.move ⟨by kernel_rfl, by kernel_rfl, by kernel_rfl⟩ _ (Or.inl rfl) (by kernel_rfl)
  · exact Obl.skip 25 true (.bool false) rfl (by kernel_rfl) (by kernel_rfl) (by kernel_rfl) (by kernel_rfl) (fun w => holds_undef (by kernel_rfl))
  · exact Obl.skip 25 true (.bool false) rfl (by kernel_rfl) (by kernel_rfl) (by kernel_rfl) (by kernel_rfl) (fun w => holds_undef (by kernel_rfl))
  · exact Obl.skip 25 true (.bool false) rfl (by kernel_rfl) (by kernel_rfl) (by kernel_rfl) (by kernel_rfl) (fun w => holds_undef (by kernel_rfl))
  · exact Obl.skip 25 true (.bool false) rfl (by kernel_rfl) (by kernel_rfl) (by kernel_rfl) (by kernel_rfl) (fun w => holds_undef (by kernel_rfl))
  · exact Obl.skip 29 false (undef) rfl (by kernel_rfl) (by kernel_rfl) (by kernel_rfl) (by kernel_rfl) (fun w => holds_undef (by kernel_rfl))
  · exact Obl.skip 29 false (undef) rfl (by kernel_rfl) (by kernel_rfl) (by kernel_rfl) (by kernel_rfl) (fun w => holds_undef (by kernel_rfl))
  · exact Obl.skip 29 false (undef) rfl (by kernel_rfl) (by kernel_rfl) (by kernel_rfl) (by kernel_rfl) (fun w => holds_undef (by kernel_rfl))
  · exact Obl.skip 25 true (.bool false) rfl (by kernel_rfl) (by kernel_rfl) (by kernel_rfl) (by kernel_rfl) (fun w => holds_undef (by kernel_rfl))
  · exact Obl.pick ⟨by kernel_rfl, by kernel_rfl, by kernel_rfl⟩ _ _ _ rfl false (by kernel_rfl) (by kernel_rfl)
  · exact Obl.pick trivial _ _ _ rfl false (by kernel_rfl) (by kernel_rfl)
  · exact Obl.move trivial _ (Or.inl rfl) (by kernel_rfl)
  · exact Obl.pure ⟨by kernel_rfl, by kernel_rfl, by kernel_rfl⟩ (.pointer (some ⟨L, 5, none⟩)) (by kernel_rfl) (fun ev w hb hx => by
      have e1 : ev (.tmp 1) = .pointer (some ⟨L, 0, none⟩) := holds_val (hx (.tmp 1)) (by kernel_rfl)
      simp [execOp, e1, go_sem])
  · exact Obl.pure ⟨by kernel_rfl, by kernel_rfl, by kernel_rfl⟩ (.int .i64 0) (by kernel_rfl) (fun ev w hb hx => by
      have e121 : ev (.tmp 121) = .pointer (some ⟨L, 5, none⟩) := holds_val (hx (.tmp 121)) (by kernel_rfl)
      (have m5 := (hb.cell (p := ⟨L, 5, none⟩) hz).trans k5; simp [execOp, e121, go_sem, m5]))
  · exact Obl.bin ⟨by kernel_rfl, by kernel_rfl, by kernel_rfl⟩ .lss _ (.tmp 122) (.const (.int .i64 0)) _ rfl (.int .i64 0) (.int .i64 0) (.bool false) (by kernel_rfl) (by kernel_rfl) (fun w => by simp [eqGuard, go_sem]; try omega) (by kernel_rfl)
  · exact Obl.pick trivial _ _ _ rfl false (by kernel_rfl) (by kernel_rfl)
  · exact Obl.move trivial _ (Or.inl rfl) (by kernel_rfl)
  · exact Obl.pure ⟨by kernel_rfl, by kernel_rfl, by kernel_rfl⟩ (.pointer (some ⟨L, 5, none⟩)) (by kernel_rfl) (fun ev w hb hx => by
      have e1 : ev (.tmp 1) = .pointer (some ⟨L, 0, none⟩) := holds_val (hx (.tmp 1)) (by kernel_rfl)
      simp [execOp, e1, go_sem])
  · exact Obl.pure ⟨by kernel_rfl, by kernel_rfl, by kernel_rfl⟩ (.int .i64 0) (by kernel_rfl) (fun ev w hb hx => by
      have e126 : ev (.tmp 126) = .pointer (some ⟨L, 5, none⟩) := holds_val (hx (.tmp 126)) (by kernel_rfl)
      (have m5 := (hb.cell (p := ⟨L, 5, none⟩) hz).trans k5; simp [execOp, e126, go_sem, m5]))
  · exact Obl.bin ⟨by kernel_rfl, by kernel_rfl, by kernel_rfl⟩ .gtr _ (.tmp 127) (.const (.int .i64 3)) _ rfl (.int .i64 0) (.int .i64 3) (.bool false) (by kernel_rfl) (by kernel_rfl) (fun w => by simp [eqGuard, go_sem]; try omega) (by kernel_rfl)
  · exact Obl.pick trivial _ _ _ rfl false (by kernel_rfl) (by kernel_rfl)
  · exact Obl.move trivial _ (Or.inl rfl) (by kernel_rfl)
  · exact Obl.pure ⟨by kernel_rfl, by kernel_rfl, by kernel_rfl⟩ (.pointer (some ⟨L, 6, none⟩)) (by kernel_rfl) (fun ev w hb hx => by
      have e1 : ev (.tmp 1) = .pointer (some ⟨L, 0, none⟩) := holds_val (hx (.tmp 1)) (by kernel_rfl)
      simp [execOp, e1, go_sem])
  · exact Obl.pure ⟨by kernel_rfl, by kernel_rfl, by kernel_rfl⟩ (.int .i64 0) (by kernel_rfl) (fun ev w hb hx => by
      have e131 : ev (.tmp 131) = .pointer (some ⟨L, 6, none⟩) := holds_val (hx (.tmp 131)) (by kernel_rfl)
      (have m6 := (hb.cell (p := ⟨L, 6, none⟩) hz).trans k6; simp [execOp, e131, go_sem, m6]))
  · exact Obl.bin ⟨by kernel_rfl, by kernel_rfl, by kernel_rfl⟩ .lss _ (.tmp 132) (.const (.int .i64 0)) _ rfl (.int .i64 0) (.int .i64 0) (.bool false) (by kernel_rfl) (by kernel_rfl) (fun w => by simp [eqGuard, go_sem]; try omega) (by kernel_rfl)
  · exact Obl.pick trivial _ _ _ rfl false (by kernel_rfl) (by kernel_rfl)
  · exact Obl.move trivial _ (Or.inl rfl) (by kernel_rfl)
  · exact Obl.pure ⟨by kernel_rfl, by kernel_rfl, by kernel_rfl⟩ (.pointer (some ⟨L, 6, none⟩)) (by kernel_rfl) (fun ev w hb hx => by
      have e1 : ev (.tmp 1) = .pointer (some ⟨L, 0, none⟩) := holds_val (hx (.tmp 1)) (by kernel_rfl)
      simp [execOp, e1, go_sem])
  · exact Obl.pure ⟨by kernel_rfl, by kernel_rfl, by kernel_rfl⟩ (.int .i64 0) (by kernel_rfl) (fun ev w hb hx => by
      have e136 : ev (.tmp 136) = .pointer (some ⟨L, 6, none⟩) := holds_val (hx (.tmp 136)) (by kernel_rfl)
      (have m6 := (hb.cell (p := ⟨L, 6, none⟩) hz).trans k6; simp [execOp, e136, go_sem, m6]))
  · exact Obl.bin ⟨by kernel_rfl, by kernel_rfl, by kernel_rfl⟩ .geq _ (.tmp 137) (.const (.int .i64 3)) _ rfl (.int .i64 0) (.int .i64 3) (.bool false) (by kernel_rfl) (by kernel_rfl) (fun w => by simp [eqGuard, go_sem]; try omega) (by kernel_rfl)
  · exact Obl.pick trivial _ _ _ rfl false (by kernel_rfl) (by kernel_rfl)
  · exact Obl.move trivial _ (Or.inl rfl) (by kernel_rfl)
  · exact Obl.pure ⟨by kernel_rfl, by kernel_rfl, by kernel_rfl⟩ (.pointer (some ⟨L, 7, none⟩)) (by kernel_rfl) (fun ev w hb hx => by
      have e1 : ev (.tmp 1) = .pointer (some ⟨L, 0, none⟩) := holds_val (hx (.tmp 1)) (by kernel_rfl)
      simp [execOp, e1, go_sem])
  · exact Obl.pure ⟨by kernel_rfl, by kernel_rfl, by kernel_rfl⟩ (.int .i64 0) (by kernel_rfl) (fun ev w hb hx => by
      have e141 : ev (.tmp 141) = .pointer (some ⟨L, 7, none⟩) := holds_val (hx (.tmp 141)) (by kernel_rfl)
      (have m7 := (hb.cell (p := ⟨L, 7, none⟩) hz).trans k7; simp [execOp, e141, go_sem, m7]))
  · exact Obl.bin ⟨by kernel_rfl, by kernel_rfl, by kernel_rfl⟩ .lss _ (.tmp 142) (.const (.int .i64 0)) _ rfl (.int .i64 0) (.int .i64 0) (.bool false) (by kernel_rfl) (by kernel_rfl) (fun w => by simp [eqGuard, go_sem]; try omega) (by kernel_rfl)
  · exact Obl.pick trivial _ _ _ rfl false (by kernel_rfl) (by kernel_rfl)
  · exact Obl.move trivial _ (Or.inl rfl) (by kernel_rfl)
  · exact Obl.pure ⟨by kernel_rfl, by kernel_rfl, by kernel_rfl⟩ (.pointer (some ⟨L, 7, none⟩)) (by kernel_rfl) (fun ev w hb hx => by
      have e1 : ev (.tmp 1) = .pointer (some ⟨L, 0, none⟩) := holds_val (hx (.tmp 1)) (by kernel_rfl)
      simp [execOp, e1, go_sem])
  · exact Obl.pure ⟨by kernel_rfl, by kernel_rfl, by kernel_rfl⟩ (.int .i64 0) (by kernel_rfl) (fun ev w hb hx => by
      have e146 : ev (.tmp 146) = .pointer (some ⟨L, 7, none⟩) := holds_val (hx (.tmp 146)) (by kernel_rfl)
      (have m7 := (hb.cell (p := ⟨L, 7, none⟩) hz).trans k7; simp [execOp, e146, go_sem, m7]))
  · exact Obl.bin ⟨by kernel_rfl, by kernel_rfl, by kernel_rfl⟩ .gtr _ (.tmp 147) (.const (.int .i64 255)) _ rfl (.int .i64 0) (.int .i64 255) (.bool false) (by kernel_rfl) (by kernel_rfl) (fun w => by simp [eqGuard, go_sem]; try omega) (by kernel_rfl)
  · exact Obl.pick trivial _ _ _ rfl false (by kernel_rfl) (by kernel_rfl)
  intro a WR hb hsz hdf hold hv
  have ha := act_puts [84, 85, 86, 87, 88, 89, 90, 91, 92, 93, 94, 95, 96, 97, 98, 99, 100, 101, 102, 103, 104, 105, 106, 107, 108, 109, 110, 111, 112, 113, 114, 115, 116, 117, 118, 119, 120, 121, 122, 123, 124, 125, 126, 127, 128, 129, 130, 131, 132, 133, 134, 135, 136, 137, 138, 139, 140, 141, 142, 143, 144, 145, 146, 147, 148, 149] (by kernel_rfl) hsz hdf hold
  simp only [putAll] at ha
  have z149 : a.tmps.getD 149 undef = .bool false := holds_val (hv 65 149 (by kernel_rfl)) (by kernel_rfl)
  rw [z149] at ha
  generalize a.tmps.getD 84 undef = x84 at ha
  generalize a.tmps.getD 85 undef = x85 at ha
  generalize a.tmps.getD 86 undef = x86 at ha
  generalize a.tmps.getD 87 undef = x87 at ha
  generalize a.tmps.getD 88 undef = x88 at ha
  generalize a.tmps.getD 89 undef = x89 at ha
  generalize a.tmps.getD 90 undef = x90 at ha
  generalize a.tmps.getD 91 undef = x91 at ha
  generalize a.tmps.getD 92 undef = x92 at ha
  generalize a.tmps.getD 93 undef = x93 at ha
  generalize a.tmps.getD 94 undef = x94 at ha
  generalize a.tmps.getD 95 undef = x95 at ha
  generalize a.tmps.getD 96 undef = x96 at ha
  generalize a.tmps.getD 97 undef = x97 at ha
  generalize a.tmps.getD 98 undef = x98 at ha
  generalize a.tmps.getD 99 undef = x99 at ha
  generalize a.tmps.getD 100 undef = x100 at ha
  generalize a.tmps.getD 101 undef = x101 at ha
  generalize a.tmps.getD 102 undef = x102 at ha
  generalize a.tmps.getD 103 undef = x103 at ha
  generalize a.tmps.getD 104 undef = x104 at ha
  generalize a.tmps.getD 105 undef = x105 at ha
  generalize a.tmps.getD 106 undef = x106 at ha
  generalize a.tmps.getD 107 undef = x107 at ha
  generalize a.tmps.getD 108 undef = x108 at ha
  generalize a.tmps.getD 109 undef = x109 at ha
  generalize a.tmps.getD 110 undef = x110 at ha
  generalize a.tmps.getD 111 undef = x111 at ha
  generalize a.tmps.getD 112 undef = x112 at ha
  generalize a.tmps.getD 113 undef = x113 at ha
  generalize a.tmps.getD 114 undef = x114 at ha
  generalize a.tmps.getD 115 undef = x115 at ha
  generalize a.tmps.getD 116 undef = x116 at ha
  generalize a.tmps.getD 117 undef = x117 at ha
  generalize a.tmps.getD 118 undef = x118 at ha
  generalize a.tmps.getD 119 undef = x119 at ha
  generalize a.tmps.getD 120 undef = x120 at ha
  generalize a.tmps.getD 121 undef = x121 at ha
  generalize a.tmps.getD 122 undef = x122 at ha
  generalize a.tmps.getD 123 undef = x123 at ha
  generalize a.tmps.getD 124 undef = x124 at ha
  generalize a.tmps.getD 125 undef = x125 at ha
  generalize a.tmps.getD 126 undef = x126 at ha
  generalize a.tmps.getD 127 undef = x127 at ha
  generalize a.tmps.getD 128 undef = x128 at ha
  generalize a.tmps.getD 129 undef = x129 at ha
  generalize a.tmps.getD 130 undef = x130 at ha
  generalize a.tmps.getD 131 undef = x131 at ha
  generalize a.tmps.getD 132 undef = x132 at ha
  generalize a.tmps.getD 133 undef = x133 at ha
  generalize a.tmps.getD 134 undef = x134 at ha
  generalize a.tmps.getD 135 undef = x135 at ha
  generalize a.tmps.getD 136 undef = x136 at ha
  generalize a.tmps.getD 137 undef = x137 at ha
  generalize a.tmps.getD 138 undef = x138 at ha
  generalize a.tmps.getD 139 undef = x139 at ha
  generalize a.tmps.getD 140 undef = x140 at ha
  generalize a.tmps.getD 141 undef = x141 at ha
  generalize a.tmps.getD 142 undef = x142 at ha
  generalize a.tmps.getD 143 undef = x143 at ha
  generalize a.tmps.getD 144 undef = x144 at ha
  generalize a.tmps.getD 145 undef = x145 at ha
  generalize a.tmps.getD 146 undef = x146 at ha
  generalize a.tmps.getD 147 undef = x147 at ha
  generalize a.tmps.getD 148 undef = x148 at ha
  clear hv hold hsz hdf z149
  subst ha
  simp only [Act.put, List.setIfInBounds_toArray, List.set_cons_succ, List.set_cons_zero]
  have kk := (hb.cell (p := ⟨L, 2, none⟩) hz).trans k2
  have b2 := b2.trans (hb.mono (by have := HLL.out; omega))
  clear hb k0 k1 k2 k3 k4 k5 k6 k7
  go_wp2_with fail
  refine (ref8_in_l (hasS 3) _ (hasS_size 3)).mono ?_
  rintro e w' ⟨rfl, rfl⟩
  go_wp2_with fail
  refine (hL _ (HLL.out ▸ b2)).mono ?_
  rintro e W2 ⟨rfl, b3⟩
  have b2 := b2.trans (b3.mono (by have := b2.size; have := HLL.out; omega))
  clear b3
  go_wp2_with fail
  go_ret
  exact ⟨rfl, HLL.out ▸ b2⟩
set_option maxHeartbeats 8000000 in
theorem right8_4 (E H S : Nat) (hE : E ≤ 5) (lH : 1 ≤ H) (hH : H ≤ 8192) (hS : S ≤ 3) (A : Option Addr) (c : Nat) (w : World) : Calls Try.prog 28 #[.agg #[.int .i64 4, .int .i64 0, .slice A 0 c, .int .i64 (E : Int), .int .i64 (H : Int), .int .i64 (S : Int), .int .i64 0, .int .i64 0]] w (Ans (.int .i64 0) w) := by
  have ic : inS8 (hasS 4) 99 = false := by decide
  have il : inS8 (hasS 4) 108 = false := by decide
  have ip : inS8 (hasS 4) 112 = true := by decide
  have ih : inS8 (hasS 4) 104 = true := by decide
  have ik : inS8 (hasS 4) 107 = true := by decide
  have iy : inS8 (hasS 4) 121 = false := by decide
  have ie : inS8 (hasS 4) 101 = false := by decide
  have kc := blk8 (Blk.new w 25 #[.int .i64 4, .int .i64 0, .slice A 0 c, .int .i64 (E : Int), .int .i64 (H : Int), .int .i64 (S : Int), .int .i64 0, .int .i64 0])
  have b0 := below_alloc w (.cells #[.int .i64 4, .int .i64 0, .slice A 0 c, .int .i64 (E : Int), .int .i64 (H : Int), .int .i64 (S : Int), .int .i64 0, .int .i64 0] 25)
  have hz : w.heap.size < (w.alloc (.cells #[.int .i64 4, .int .i64 0, .slice A 0 c, .int .i64 (E : Int), .int .i64 (H : Int), .int .i64 (S : Int), .int .i64 0, .int .i64 0] 25)).heap.size := by simp
  go_enter Try.func28, Try.ntmps28
  go_upto_region 1 with (fail)
  generalize w.alloc (.cells #[.int .i64 4, .int .i64 0, .slice A 0 c, .int .i64 (E : Int), .int .i64 (H : Int), .int .i64 (S : Int), .int .i64 0, .int .i64 0] 25) = W0 at kc b0 hz ⊢
  go_wp2_with fail
  refine (ref8_has 4 (by decide) (by decide) _).mono ?_
  rintro e W1 ⟨rfl, b1⟩
  have k0 := (b1.cell (p := ⟨w.heap.size, 0, none⟩) hz).trans kc.1
  have k1 := (b1.cell (p := ⟨w.heap.size, 1, none⟩) hz).trans kc.2.1
  have k2 := (b1.cell (p := ⟨w.heap.size, 2, none⟩) hz).trans kc.2.2.1
  have k3 := (b1.cell (p := ⟨w.heap.size, 3, none⟩) hz).trans kc.2.2.2.1
  have k4 := (b1.cell (p := ⟨w.heap.size, 4, none⟩) hz).trans kc.2.2.2.2.1
  have k5 := (b1.cell (p := ⟨w.heap.size, 5, none⟩) hz).trans kc.2.2.2.2.2.1
  have k6 := (b1.cell (p := ⟨w.heap.size, 6, none⟩) hz).trans kc.2.2.2.2.2.2.1
  have k7 := (b1.cell (p := ⟨w.heap.size, 7, none⟩) hz).trans kc.2.2.2.2.2.2.2
  have b2 := b0.trans (b1.mono b0.size)
  have hz := Nat.lt_of_lt_of_le hz b1.size
  clear kc b0 b1
  obtain ⟨L, hLL⟩ : ∃ L, L = w.heap.size := ⟨_, rfl⟩
  rw [← hLL] at k0 k1 k2 k3 k4 k5 k6 k7 hz b2
  have HLL := Lib.hid hLL
  go_upto_region 4 with (fail)
  rw [← hLL]
  clear hLL
  have q0 := Lib.hid k0
  have q1 := Lib.hid k1
  have q2 := Lib.hid k2
  have q3 := Lib.hid k3
  have q4 := Lib.hid k4
  have q5 := Lib.hid k5
  have q6 := Lib.hid k6
  have q7 := Lib.hid k7
  refine wp_region_seq [.val (.string (hasS 4)), .val (.bool false), .val (.bool true), .val (.bool true), .val (.pointer (some ⟨L, 1, none⟩)), .val (.int .i64 0), .val (.bool false), .val (.bool false), .val (.bool false), .val (.string (hasS 4)), .val (.bool false), .val (.bool true), .val (.bool true), .val (.pointer (some ⟨L, 2, none⟩)), .val (.slice A 0 c), .val (.int .i64 (0 : Nat)), .val (.bool false), .val (.bool false), .val (.bool false), .val (.bool false), .val (.string (hasS 4)), .val (.bool true), .val (.bool false), .val (.bool false), .val (undef), .val (undef), .val (undef), .val (.bool false), .val (.bool false), .val (.bool false), .val (.string (hasS 4)), .val (.bool true), .val (.bool false), .val (.bool false), .val (undef), .val (undef), .val (undef), .val (.bool false), .val (.bool false), .val (.bool false), .val (.string (hasS 4)), .val (.bool true), .val (.bool false), .val (.bool false), .val (undef), .val (undef), .val (undef), .val (.bool false), .val (.bool false), .val (.bool false), .val (.string (hasS 4)), .val (.bool false), .val (.bool true), .val (.bool true), .val (.pointer (some ⟨L, 6, none⟩)), .val (.int .i64 0), .val (.bool false), .val (.bool false), .val (.bool false), .val (.bool false), .val (.string (hasS 4)), .val (.bool false), .val (.bool true), .val (.bool true), .val (.pointer (some ⟨L, 7, none⟩)), .val (.int .i64 0), .val (.bool false), .val (.bool false), .val (.bool false)] (by kernel_rfl) (by kernel_rfl) (AllObl.all ⟨?_, ?_, ?_, ?_, ?_, ?_, ?_, ?_, ?_, ?_, ?_, ?_, ?_, ?_, ?_, ?_, ?_, ?_, ?_, ?_, ?_, ?_, ?_, ?_, ?_, ?_, ?_, ?_, ?_, ?_, ?_, ?_, ?_, ?_, ?_, ?_, ?_, ?_, ?_, ?_, ?_, ?_, ?_, ?_, ?_, ?_, ?_, ?_, ?_, ?_, ?_, ?_, ?_, ?_, ?_, ?_, ?_, ?_, ?_, ?_, ?_, ?_, ?_, ?_, ?_, ?_, ?_, ?_, ?_, trivial⟩) ?_
  · exact Obl.move trivial _ (Or.inl rfl) (by kernel_rfl)
  · exact Obl.call trivial 46 #[.tmp 15, .const (.int .u8 99)] _ rfl Try.f46 Try.func46 (by kernel_rfl) (by kernel_rfl) (fun ev w hb hx => by
      have e15 : ev (.tmp 15) = .string (hasS 4) := holds_val (hx (.tmp 15)) (by kernel_rfl)
      have k0 : ev (.const (.int .u8 99)) = (.int .u8 99) := holds_val (hx (.const (.int .u8 99))) (by kernel_rfl)
      simp only [List.map_toArray, List.map_cons, List.map_nil, e15, k0]
      exact (((ref8_in_c (hasS 4) w (hasS_size 4)).mono fun e w' h => still_ans ic h)).mono fun _ _ hh => Val.holds (by kernel_rfl) hh)
  · exact Obl.un trivial .not _ (.tmp 16) rfl (.bool false) (.bool true) (by kernel_rfl) (fun w => by simp [go_sem]) (by kernel_rfl)
  · exact Obl.move trivial _ (Or.inl rfl) (by kernel_rfl)
  · exact Obl.pure ⟨by kernel_rfl, by kernel_rfl, by kernel_rfl⟩ (.pointer (some ⟨L, 1, none⟩)) (by kernel_rfl) (fun ev w hb hx => by
      have e1 : ev (.tmp 1) = .pointer (some ⟨L, 0, none⟩) := holds_val (hx (.tmp 1)) (by kernel_rfl)
      simp [execOp, e1, go_sem])
  · exact Obl.pure ⟨by kernel_rfl, by kernel_rfl, by kernel_rfl⟩ (.int .i64 0) (by kernel_rfl) (fun ev w hb hx => by
      have e19 : ev (.tmp 19) = .pointer (some ⟨L, 1, none⟩) := holds_val (hx (.tmp 19)) (by kernel_rfl)
      (have m1 := (hb.cell (p := ⟨L, 1, none⟩) hz).trans k1; simp [execOp, e19, go_sem, m1]))
  · exact Obl.bin ⟨by kernel_rfl, by kernel_rfl, by kernel_rfl⟩ .neq _ (.tmp 20) (.const (.int .i64 0)) _ rfl (.int .i64 0) (.int .i64 0) (.bool false) (by kernel_rfl) (by kernel_rfl) (fun w => by simp [eqGuard, go_sem]; try omega) (by kernel_rfl)
  · exact Obl.pick trivial _ _ _ rfl true (by kernel_rfl) (by kernel_rfl)
  · exact Obl.move trivial _ (Or.inl rfl) (by kernel_rfl)
  · exact Obl.move ⟨by kernel_rfl, by kernel_rfl, by kernel_rfl⟩ _ (Or.inl rfl) (by kernel_rfl)
  · exact Obl.call ⟨by kernel_rfl, by kernel_rfl, by kernel_rfl⟩ 46 #[.tmp 24, .const (.int .u8 108)] _ rfl Try.f46 Try.func46 (by kernel_rfl) (by kernel_rfl) (fun ev w hb hx => by
      have e24 : ev (.tmp 24) = .string (hasS 4) := holds_val (hx (.tmp 24)) (by kernel_rfl)
      have k0 : ev (.const (.int .u8 108)) = (.int .u8 108) := holds_val (hx (.const (.int .u8 108))) (by kernel_rfl)
      simp only [List.map_toArray, List.map_cons, List.map_nil, e24, k0]
      exact (((ref8_in_l (hasS 4) w (hasS_size 4)).mono fun e w' h => still_ans il h)).mono fun _ _ hh => Val.holds (by kernel_rfl) hh)
  · exact Obl.un ⟨by kernel_rfl, by kernel_rfl, by kernel_rfl⟩ .not _ (.tmp 25) rfl (.bool false) (.bool true) (by kernel_rfl) (fun w => by simp [go_sem]) (by kernel_rfl)
  · exact Obl.move ⟨by kernel_rfl, by kernel_rfl, by kernel_rfl⟩ _ (Or.inl rfl) (by kernel_rfl)
  · exact Obl.pure ⟨by kernel_rfl, by kernel_rfl, by kernel_rfl⟩ (.pointer (some ⟨L, 2, none⟩)) (by kernel_rfl) (fun ev w hb hx => by
      have e1 : ev (.tmp 1) = .pointer (some ⟨L, 0, none⟩) := holds_val (hx (.tmp 1)) (by kernel_rfl)
      simp [execOp, e1, go_sem])
  · exact Obl.pure ⟨by kernel_rfl, by kernel_rfl, by kernel_rfl⟩ (.slice A 0 c) (by kernel_rfl) (fun ev w hb hx => by
      have e28 : ev (.tmp 28) = .pointer (some ⟨L, 2, none⟩) := holds_val (hx (.tmp 28)) (by kernel_rfl)
      (have m2 := (hb.cell (p := ⟨L, 2, none⟩) hz).trans k2; simp [execOp, e28, go_sem, m2]))
  · exact Obl.lenV (x := (.tmp 29)) ⟨by kernel_rfl, by kernel_rfl, by kernel_rfl⟩ _ _ Try.underlying23 rfl (A) (0) (c) (by kernel_rfl) (by kernel_rfl)
  · exact Obl.bin ⟨by kernel_rfl, by kernel_rfl, by kernel_rfl⟩ .gtr _ (.tmp 30) (.const (.int .i64 0)) _ rfl (.int .i64 (0 : Nat)) (.int .i64 0) (.bool false) (by kernel_rfl) (by kernel_rfl) (fun w => by simp [eqGuard, go_sem]; try omega) (by kernel_rfl)
  · exact Obl.pick ⟨by kernel_rfl, by kernel_rfl, by kernel_rfl⟩ _ _ _ rfl true (by kernel_rfl) (by kernel_rfl)
  · exact Obl.pick trivial _ _ _ rfl false (by kernel_rfl) (by kernel_rfl)
  · exact Obl.move trivial _ (Or.inl rfl) (by kernel_rfl)
  · exact Obl.move ⟨by kernel_rfl, by kernel_rfl, by kernel_rfl⟩ _ (Or.inl rfl) (by kernel_rfl)
  · exact Obl.call ⟨by kernel_rfl, by kernel_rfl, by kernel_rfl⟩ 46 #[.tmp 35, .const (.int .u8 112)] _ rfl Try.f46 Try.func46 (by kernel_rfl) (by kernel_rfl) (fun ev w hb hx => by
      have e35 : ev (.tmp 35) = .string (hasS 4) := holds_val (hx (.tmp 35)) (by kernel_rfl)
      have k0 : ev (.const (.int .u8 112)) = (.int .u8 112) := holds_val (hx (.const (.int .u8 112))) (by kernel_rfl)
      simp only [List.map_toArray, List.map_cons, List.map_nil, e35, k0]
      exact (((ref8_in_p (hasS 4) w (hasS_size 4)).mono fun e w' h => still_ans ip h)).mono fun _ _ hh => Val.holds (by kernel_rfl) hh)
  · exact Obl.un ⟨by kernel_rfl, by kernel_rfl, by kernel_rfl⟩ .not _ (.tmp 36) rfl (.bool true) (.bool false) (by kernel_rfl) (fun w => by simp [go_sem]) (by kernel_rfl)
  · exact Obl.move ⟨by kernel_rfl, by kernel_rfl, by kernel_rfl⟩ _ (Or.inl rfl) (by kernel_rfl)
  · exact Obl.skip 23 true (.bool false) rfl (by kernel_rfl) (by kernel_rfl) (by kernel_rfl) (by kernel_rfl) (fun w => holds_undef (by kernel_rfl))
  · exact Obl.skip 23 true (.bool false) rfl (by kernel_rfl) (by kernel_rfl) (by kernel_rfl) (by kernel_rfl) (fun w => holds_undef (by kernel_rfl))
  · exact Obl.skip 23 true (.bool false) rfl (by kernel_rfl) (by kernel_rfl) (by kernel_rfl) (by kernel_rfl) (fun w => holds_undef (by kernel_rfl))
  · exact Obl.pick ⟨by kernel_rfl, by kernel_rfl, by kernel_rfl⟩ _ _ _ rfl false (by kernel_rfl) (by kernel_rfl)
  · exact Obl.pick trivial _ _ _ rfl false (by kernel_rfl) (by kernel_rfl)
  · exact Obl.move trivial _ (Or.inl rfl) (by kernel_rfl)
  · exact Obl.move ⟨by kernel_rfl, by kernel_rfl, by kernel_rfl⟩ _ (Or.inl rfl) (by kernel_rfl)
  · exact Obl.call ⟨by kernel_rfl, by kernel_rfl, by kernel_rfl⟩ 46 #[.tmp 45, .const (.int .u8 104)] _ rfl Try.f46 Try.func46 (by kernel_rfl) (by kernel_rfl) (fun ev w hb hx => by
      have e45 : ev (.tmp 45) = .string (hasS 4) := holds_val (hx (.tmp 45)) (by kernel_rfl)
      have k0 : ev (.const (.int .u8 104)) = (.int .u8 104) := holds_val (hx (.const (.int .u8 104))) (by kernel_rfl)
      simp only [List.map_toArray, List.map_cons, List.map_nil, e45, k0]
      exact (((ref8_in_h (hasS 4) w (hasS_size 4)).mono fun e w' h => still_ans ih h)).mono fun _ _ hh => Val.holds (by kernel_rfl) hh)
  · exact Obl.un ⟨by kernel_rfl, by kernel_rfl, by kernel_rfl⟩ .not _ (.tmp 46) rfl (.bool true) (.bool false) (by kernel_rfl) (fun w => by simp [go_sem]) (by kernel_rfl)
  · exact Obl.move ⟨by kernel_rfl, by kernel_rfl, by kernel_rfl⟩ _ (Or.inl rfl) (by kernel_rfl)
  · exact Obl.skip 33 true (.bool false) rfl (by kernel_rfl) (by kernel_rfl) (by kernel_rfl) (by kernel_rfl) (fun w => holds_undef (by kernel_rfl))
  · exact Obl.skip 33 true (.bool false) rfl (by kernel_rfl) (by kernel_rfl) (by kernel_rfl) (by kernel_rfl) (fun w => holds_undef (by kernel_rfl))
  · exact Obl.skip 33 true (.bool false) rfl (by kernel_rfl) (by kernel_rfl) (by kernel_rfl) (by kernel_rfl) (fun w => holds_undef (by kernel_rfl))
  · exact Obl.pick ⟨by kernel_rfl, by kernel_rfl, by kernel_rfl⟩ _ _ _ rfl false (by kernel_rfl) (by kernel_rfl)
  · exact Obl.pick trivial _ _ _ rfl false (by kernel_rfl) (by kernel_rfl)
  · exact Obl.move trivial _ (Or.inl rfl) (by kernel_rfl)
  · exact Obl.move ⟨by kernel_rfl, by kernel_rfl, by kernel_rfl⟩ _ (Or.inl rfl) (by kernel_rfl)
  · exact Obl.call ⟨by kernel_rfl, by kernel_rfl, by kernel_rfl⟩ 46 #[.tmp 55, .const (.int .u8 107)] _ rfl Try.f46 Try.func46 (by kernel_rfl) (by kernel_rfl) (fun ev w hb hx => by
      have e55 : ev (.tmp 55) = .string (hasS 4) := holds_val (hx (.tmp 55)) (by kernel_rfl)
      have k0 : ev (.const (.int .u8 107)) = (.int .u8 107) := holds_val (hx (.const (.int .u8 107))) (by kernel_rfl)
      simp only [List.map_toArray, List.map_cons, List.map_nil, e55, k0]
      exact (((ref8_in_k (hasS 4) w (hasS_size 4)).mono fun e w' h => still_ans ik h)).mono fun _ _ hh => Val.holds (by kernel_rfl) hh)
  · exact Obl.un ⟨by kernel_rfl, by kernel_rfl, by kernel_rfl⟩ .not _ (.tmp 56) rfl (.bool true) (.bool false) (by kernel_rfl) (fun w => by simp [go_sem]) (by kernel_rfl)
  · exact Obl.move ⟨by kernel_rfl, by kernel_rfl, by kernel_rfl⟩ _ (Or.inl rfl) (by kernel_rfl)
  · exact Obl.skip 43 true (.bool false) rfl (by kernel_rfl) (by kernel_rfl) (by kernel_rfl) (by kernel_rfl) (fun w => holds_undef (by kernel_rfl))
  · exact Obl.skip 43 true (.bool false) rfl (by kernel_rfl) (by kernel_rfl) (by kernel_rfl) (by kernel_rfl) (fun w => holds_undef (by kernel_rfl))
  · exact Obl.skip 43 true (.bool false) rfl (by kernel_rfl) (by kernel_rfl) (by kernel_rfl) (by kernel_rfl) (fun w => holds_undef (by kernel_rfl))
  · exact Obl.pick ⟨by kernel_rfl, by kernel_rfl, by kernel_rfl⟩ _ _ _ rfl false (by kernel_rfl) (by kernel_rfl)
  · exact Obl.pick trivial _ _ _ rfl false (by kernel_rfl) (by kernel_rfl)
  · exact Obl.move trivial _ (Or.inl rfl) (by kernel_rfl)
  · exact Obl.move ⟨by kernel_rfl, by kernel_rfl, by kernel_rfl⟩ _ (Or.inl rfl) (by kernel_rfl)
  · exact Obl.call ⟨by kernel_rfl, by kernel_rfl, by kernel_rfl⟩ 46 #[.tmp 65, .const (.int .u8 121)] _ rfl Try.f46 Try.func46 (by kernel_rfl) (by kernel_rfl) (fun ev w hb hx => by
      have e65 : ev (.tmp 65) = .string (hasS 4) := holds_val (hx (.tmp 65)) (by kernel_rfl)
      have k0 : ev (.const (.int .u8 121)) = (.int .u8 121) := holds_val (hx (.const (.int .u8 121))) (by kernel_rfl)
      simp only [List.map_toArray, List.map_cons, List.map_nil, e65, k0]
      exact (((ref8_in_y (hasS 4) w (hasS_size 4)).mono fun e w' h => still_ans iy h)).mono fun _ _ hh => Val.holds (by kernel_rfl) hh)
  · exact Obl.un ⟨by kernel_rfl, by kernel_rfl, by kernel_rfl⟩ .not _ (.tmp 66) rfl (.bool false) (.bool true) (by kernel_rfl) (fun w => by simp [go_sem]) (by kernel_rfl)
  · exact Obl.move ⟨by kernel_rfl, by kernel_rfl, by kernel_rfl⟩ _ (Or.inl rfl) (by kernel_rfl)
  · exact Obl.pure ⟨by kernel_rfl, by kernel_rfl, by kernel_rfl⟩ (.pointer (some ⟨L, 6, none⟩)) (by kernel_rfl) (fun ev w hb hx => by
      have e1 : ev (.tmp 1) = .pointer (some ⟨L, 0, none⟩) := holds_val (hx (.tmp 1)) (by kernel_rfl)
      simp [execOp, e1, go_sem])
  · exact Obl.pure ⟨by kernel_rfl, by kernel_rfl, by kernel_rfl⟩ (.int .i64 0) (by kernel_rfl) (fun ev w hb hx => by
      have e69 : ev (.tmp 69) = .pointer (some ⟨L, 6, none⟩) := holds_val (hx (.tmp 69)) (by kernel_rfl)
      (have m6 := (hb.cell (p := ⟨L, 6, none⟩) hz).trans k6; simp [execOp, e69, go_sem, m6]))
  · exact Obl.bin ⟨by kernel_rfl, by kernel_rfl, by kernel_rfl⟩ .neq _ (.tmp 70) (.const (.int .i64 0)) _ rfl (.int .i64 0) (.int .i64 0) (.bool false) (by kernel_rfl) (by kernel_rfl) (fun w => by simp [eqGuard, go_sem]; try omega) (by kernel_rfl)
  · exact Obl.pick ⟨by kernel_rfl, by kernel_rfl, by kernel_rfl⟩ _ _ _ rfl true (by kernel_rfl) (by kernel_rfl)
  · exact Obl.pick trivial _ _ _ rfl false (by kernel_rfl) (by kernel_rfl)
  · exact Obl.move trivial _ (Or.inl rfl) (by kernel_rfl)
  · exact Obl.move ⟨by kernel_rfl, by kernel_rfl, by kernel_rfl⟩ _ (Or.inl rfl) (by kernel_rfl)
  · exact Obl.call ⟨by kernel_rfl, by kernel_rfl, by kernel_rfl⟩ 46 #[.tmp 75, .const (.int .u8 101)] _ rfl Try.f46 Try.func46 (by kernel_rfl) (by kernel_rfl) (fun ev w hb hx => by
      have e75 : ev (.tmp 75) = .string (hasS 4) := holds_val (hx (.tmp 75)) (by kernel_rfl)
      have k0 : ev (.const (.int .u8 101)) = (.int .u8 101) := holds_val (hx (.const (.int .u8 101))) (by kernel_rfl)
      simp only [List.map_toArray, List.map_cons, List.map_nil, e75, k0]
      exact (((ref8_in_e (hasS 4) w (hasS_size 4)).mono fun e w' h => still_ans ie h)).mono fun _ _ hh => Val.holds (by kernel_rfl) hh)
  · exact Obl.un ⟨by kernel_rfl, by kernel_rfl, by kernel_rfl⟩ .not _ (.tmp 76) rfl (.bool false) (.bool true) (by kernel_rfl) (fun w => by simp [go_sem]) (by kernel_rfl)
  · exact Obl.move ⟨by kernel_rfl, by kernel_rfl, by kernel_rfl⟩ _ (Or.inl rfl) (by kernel_rfl)
  · exact Obl.pure ⟨by kernel_rfl, by kernel_rfl, by kernel_rfl⟩ (.pointer (some ⟨L, 7, none⟩)) (by kernel_rfl) (fun ev w hb hx => by
      have e1 : ev (.tmp 1) = .pointer (some ⟨L, 0, none⟩) := holds_val (hx (.tmp 1)) (by kernel_rfl)
      simp [execOp, e1, go_sem])
  · exact Obl.pure ⟨by kernel_rfl, by kernel_rfl, by kernel_rfl⟩ (.int .i64 0) (by kernel_rfl) (fun ev w hb hx => by
      have e79 : ev (.tmp 79) = .pointer (some ⟨L, 7, none⟩) := holds_val (hx (.tmp 79)) (by kernel_rfl)
      (have m7 := (hb.cell (p := ⟨L, 7, none⟩) hz).trans k7; simp [execOp, e79, go_sem, m7]))
  · exact Obl.bin ⟨by kernel_rfl, by kernel_rfl, by kernel_rfl⟩ .neq _ (.tmp 80) (.const (.int .i64 0)) _ rfl (.int .i64 0) (.int .i64 0) (.bool false) (by kernel_rfl) (by kernel_rfl) (fun w => by simp [eqGuard, go_sem]; try omega) (by kernel_rfl)
  · exact Obl.pick ⟨by kernel_rfl, by kernel_rfl, by kernel_rfl⟩ _ _ _ rfl true (by kernel_rfl) (by kernel_rfl)
  · exact Obl.pick trivial _ _ _ rfl false (by kernel_rfl) (by kernel_rfl)
  intro a WR hb hsz hdf hold hv
  have ha := act_puts [15, 16, 17, 18, 19, 20, 21, 22, 23, 24, 25, 26, 27, 28, 29, 30, 31, 32, 33, 34, 35, 36, 37, 38, 39, 40, 41, 42, 43, 44, 45, 46, 47, 48, 49, 50, 51, 52, 53, 54, 55, 56, 57, 58, 59, 60, 61, 62, 63, 64, 65, 66, 67, 68, 69, 70, 71, 72, 73, 74, 75, 76, 77, 78, 79, 80, 81, 82, 83] (by kernel_rfl) hsz hdf hold
  simp only [putAll] at ha
  have z83 : a.tmps.getD 83 undef = .bool false := holds_val (hv 68 83 (by kernel_rfl)) (by kernel_rfl)
  rw [z83] at ha
  generalize a.tmps.getD 15 undef = x15 at ha
  generalize a.tmps.getD 16 undef = x16 at ha
  generalize a.tmps.getD 17 undef = x17 at ha
  generalize a.tmps.getD 18 undef = x18 at ha
  generalize a.tmps.getD 19 undef = x19 at ha
  generalize a.tmps.getD 20 undef = x20 at ha
  generalize a.tmps.getD 21 undef = x21 at ha
  generalize a.tmps.getD 22 undef = x22 at ha
  generalize a.tmps.getD 23 undef = x23 at ha
  generalize a.tmps.getD 24 undef = x24 at ha
  generalize a.tmps.getD 25 undef = x25 at ha
  generalize a.tmps.getD 26 undef = x26 at ha
  generalize a.tmps.getD 27 undef = x27 at ha
  generalize a.tmps.getD 28 undef = x28 at ha
  generalize a.tmps.getD 29 undef = x29 at ha
  generalize a.tmps.getD 30 undef = x30 at ha
  generalize a.tmps.getD 31 undef = x31 at ha
  generalize a.tmps.getD 32 undef = x32 at ha
  generalize a.tmps.getD 33 undef = x33 at ha
  generalize a.tmps.getD 34 undef = x34 at ha
  generalize a.tmps.getD 35 undef = x35 at ha
  generalize a.tmps.getD 36 undef = x36 at ha
  generalize a.tmps.getD 37 undef = x37 at ha
  generalize a.tmps.getD 38 undef = x38 at ha
  generalize a.tmps.getD 39 undef = x39 at ha
  generalize a.tmps.getD 40 undef = x40 at ha
  generalize a.tmps.getD 41 undef = x41 at ha
  generalize a.tmps.getD 42 undef = x42 at ha
  generalize a.tmps.getD 43 undef = x43 at ha
  generalize a.tmps.getD 44 undef = x44 at ha
  generalize a.tmps.getD 45 undef = x45 at ha
  generalize a.tmps.getD 46 undef = x46 at ha
  generalize a.tmps.getD 47 undef = x47 at ha
  generalize a.tmps.getD 48 undef = x48 at ha
  generalize a.tmps.getD 49 undef = x49 at ha
  generalize a.tmps.getD 50 undef = x50 at ha
  generalize a.tmps.getD 51 undef = x51 at ha
  generalize a.tmps.getD 52 undef = x52 at ha
  generalize a.tmps.getD 53 undef = x53 at ha
  generalize a.tmps.getD 54 undef = x54 at ha
  generalize a.tmps.getD 55 undef = x55 at ha
  generalize a.tmps.getD 56 undef = x56 at ha
  generalize a.tmps.getD 57 undef = x57 at ha
  generalize a.tmps.getD 58 undef = x58 at ha
  generalize a.tmps.getD 59 undef = x59 at ha
  generalize a.tmps.getD 60 undef = x60 at ha
  generalize a.tmps.getD 61 undef = x61 at ha
  generalize a.tmps.getD 62 undef = x62 at ha
  generalize a.tmps.getD 63 undef = x63 at ha
  generalize a.tmps.getD 64 undef = x64 at ha
  generalize a.tmps.getD 65 undef = x65 at ha
  generalize a.tmps.getD 66 undef = x66 at ha
  generalize a.tmps.getD 67 undef = x67 at ha
  generalize a.tmps.getD 68 undef = x68 at ha
  generalize a.tmps.getD 69 undef = x69 at ha
  generalize a.tmps.getD 70 undef = x70 at ha
  generalize a.tmps.getD 71 undef = x71 at ha
  generalize a.tmps.getD 72 undef = x72 at ha
  generalize a.tmps.getD 73 undef = x73 at ha
  generalize a.tmps.getD 74 undef = x74 at ha
  generalize a.tmps.getD 75 undef = x75 at ha
  generalize a.tmps.getD 76 undef = x76 at ha
  generalize a.tmps.getD 77 undef = x77 at ha
  generalize a.tmps.getD 78 undef = x78 at ha
  generalize a.tmps.getD 79 undef = x79 at ha
  generalize a.tmps.getD 80 undef = x80 at ha
  generalize a.tmps.getD 81 undef = x81 at ha
  generalize a.tmps.getD 82 undef = x82 at ha
  clear hv hold hsz hdf z83
  subst ha
  simp only [Act.put, List.setIfInBounds_toArray, List.set_cons_succ, List.set_cons_zero]
  have k0 := (hb.cell (p := ⟨L, 0, none⟩) hz).trans q0.out
  have k1 := (hb.cell (p := ⟨L, 1, none⟩) hz).trans q1.out
  have k2 := (hb.cell (p := ⟨L, 2, none⟩) hz).trans q2.out
  have k3 := (hb.cell (p := ⟨L, 3, none⟩) hz).trans q3.out
  have k4 := (hb.cell (p := ⟨L, 4, none⟩) hz).trans q4.out
  have k5 := (hb.cell (p := ⟨L, 5, none⟩) hz).trans q5.out
  have k6 := (hb.cell (p := ⟨L, 6, none⟩) hz).trans q6.out
  have k7 := (hb.cell (p := ⟨L, 7, none⟩) hz).trans q7.out
  have hz := Nat.lt_of_lt_of_le hz hb.size
  have b2 := b2.trans (hb.mono (by have := HLL.out; omega))
  clear hb
  go_upto_region 6 with (fail)
  refine wp_region_seq [.val (.string (hasS 4)), .val (.bool false), .val (.bool false), .val (undef), .val (undef), .val (undef), .val (undef), .val (undef), .val (undef), .val (undef), .val (undef), .val (.bool false), .val (.bool false), .val (.pointer (some ⟨L, 3, none⟩)), .val (.int .i64 (E : Int)), .val (.bool false), .val (.bool false), .val (.bool false), .val (.pointer (some ⟨L, 3, none⟩)), .val (.int .i64 (E : Int)), .val (.bool false), .val (.bool false), .val (.bool false), .val (.string (hasS 4)), .val (.bool true), .val (.bool true), .val (.pointer (some ⟨L, 4, none⟩)), .val (.int .i64 (H : Int)), .val (.bool false), .val (.bool false), .val (.pointer (some ⟨L, 4, none⟩)), .val (.int .i64 (H : Int)), .val (.bool false), .val (.bool false), .val (.bool false), .val (.bool false), .val (.bool false), .val (.pointer (some ⟨L, 5, none⟩)), .val (.int .i64 (S : Int)), .val (.bool false), .val (.bool false), .val (.bool false), .val (.pointer (some ⟨L, 5, none⟩)), .val (.int .i64 (S : Int)), .val (.bool false), .val (.bool false), .val (.bool false), .val (.pointer (some ⟨L, 6, none⟩)), .val (.int .i64 0), .val (.bool false), .val (.bool false), .val (.bool false), .val (.pointer (some ⟨L, 6, none⟩)), .val (.int .i64 0), .val (.bool false), .val (.bool false), .val (.bool false), .val (.pointer (some ⟨L, 7, none⟩)), .val (.int .i64 0), .val (.bool false), .val (.bool false), .val (.bool false), .val (.pointer (some ⟨L, 7, none⟩)), .val (.int .i64 0), .val (.bool false), .val (.bool false)] (by kernel_rfl) (by kernel_rfl) (AllObl.all ⟨?_, ?_, ?_, ?_, ?_, ?_, ?_, ?_, ?_, ?_, ?_, ?_, ?_, ?_, ?_, ?_, ?_, ?_, ?_, ?_, ?_, ?_, ?_, ?_, ?_, ?_, ?_, ?_, ?_, ?_, ?_, ?_, ?_, ?_, ?_, ?_, ?_, ?_, ?_, ?_, ?_, ?_, ?_, ?_, ?_, ?_, ?_, ?_, ?_, ?_, ?_, ?_, ?_, ?_, ?_, ?_, ?_, ?_, ?_, ?_, ?_, ?_, ?_, ?_, ?_, ?_, trivial⟩) ?_
  · exact Obl.move trivial _ (Or.inl rfl) (by kernel_rfl)
  · exact Obl.call trivial 46 #[.tmp 84, .const (.int .u8 99)] _ rfl Try.f46 Try.func46 (by kernel_rfl) (by kernel_rfl) (fun ev w hb hx => by
      have e84 : ev (.tmp 84) = .string (hasS 4) := holds_val (hx (.tmp 84)) (by kernel_rfl)
      have k0 : ev (.const (.int .u8 99)) = (.int .u8 99) := holds_val (hx (.const (.int .u8 99))) (by kernel_rfl)
      simp only [List.map_toArray, List.map_cons, List.map_nil, e84, k0]
      exact (((ref8_in_c (hasS 4) w (hasS_size 4)).mono fun e w' h => still_ans ic h)).mono fun _ _ hh => Val.holds (by kernel_rfl) hh)
  · exact Obl.move trivial _ (Or.inl rfl) (by kernel_rfl)
  · exact Obl.skip 2 true (.bool false) rfl (by kernel_rfl) (by kernel_rfl) (by kernel_rfl) (by kernel_rfl) (fun w => holds_undef (by kernel_rfl))
  · exact Obl.skip 2 true (.bool false) rfl (by kernel_rfl) (by kernel_rfl) (by kernel_rfl) (by kernel_rfl) (fun w => holds_undef (by kernel_rfl))
  · exact Obl.skip 2 true (.bool false) rfl (by kernel_rfl) (by kernel_rfl) (by kernel_rfl) (by kernel_rfl) (fun w => holds_undef (by kernel_rfl))
  · exact Obl.skip 2 true (.bool false) rfl (by kernel_rfl) (by kernel_rfl) (by kernel_rfl) (by kernel_rfl) (fun w => holds_undef (by kernel_rfl))
  · exact Obl.skip 6 false (undef) rfl (by kernel_rfl) (by kernel_rfl) (by kernel_rfl) (by kernel_rfl) (fun w => holds_undef (by kernel_rfl))
  · exact Obl.skip 6 false (undef) rfl (by kernel_rfl) (by kernel_rfl) (by kernel_rfl) (by kernel_rfl) (fun w => holds_undef (by kernel_rfl))
  · exact Obl.skip 6 false (undef) rfl (by kernel_rfl) (by kernel_rfl) (by kernel_rfl) (by kernel_rfl) (fun w => holds_undef (by kernel_rfl))
  · exact Obl.skip 2 true (.bool false) rfl (by kernel_rfl) (by kernel_rfl) (by kernel_rfl) (by kernel_rfl) (fun w => holds_undef (by kernel_rfl))
  · exact Obl.pick trivial _ _ _ rfl false (by kernel_rfl) (by kernel_rfl)
  · exact Obl.move trivial _ (Or.inl rfl) (by kernel_rfl)
  · exact Obl.pure ⟨by kernel_rfl, by kernel_rfl, by kernel_rfl⟩ (.pointer (some ⟨L, 3, none⟩)) (by kernel_rfl) (fun ev w hb hx => by
      have e1 : ev (.tmp 1) = .pointer (some ⟨L, 0, none⟩) := holds_val (hx (.tmp 1)) (by kernel_rfl)
      simp [execOp, e1, go_sem])
  · exact Obl.pure ⟨by kernel_rfl, by kernel_rfl, by kernel_rfl⟩ (.int .i64 (E : Int)) (by kernel_rfl) (fun ev w hb hx => by
      have e97 : ev (.tmp 97) = .pointer (some ⟨L, 3, none⟩) := holds_val (hx (.tmp 97)) (by kernel_rfl)
      (have m3 := (hb.cell (p := ⟨L, 3, none⟩) hz).trans k3; simp [execOp, e97, go_sem, m3]))
  · exact Obl.bin ⟨by kernel_rfl, by kernel_rfl, by kernel_rfl⟩ .lss _ (.tmp 98) (.const (.int .i64 0)) _ rfl (.int .i64 (E : Int)) (.int .i64 0) (.bool false) (by kernel_rfl) (by kernel_rfl) (fun w => by simp [eqGuard, go_sem]; try omega) (by kernel_rfl)
  · exact Obl.pick trivial _ _ _ rfl false (by kernel_rfl) (by kernel_rfl)
  · exact Obl.move trivial _ (Or.inl rfl) (by kernel_rfl)
  · exact Obl.pure ⟨by kernel_rfl, by kernel_rfl, by kernel_rfl⟩ (.pointer (some ⟨L, 3, none⟩)) (by kernel_rfl) (fun ev w hb hx => by
      have e1 : ev (.tmp 1) = .pointer (some ⟨L, 0, none⟩) := holds_val (hx (.tmp 1)) (by kernel_rfl)
      simp [execOp, e1, go_sem])
  · exact Obl.pure ⟨by kernel_rfl, by kernel_rfl, by kernel_rfl⟩ (.int .i64 (E : Int)) (by kernel_rfl) (fun ev w hb hx => by
      have e102 : ev (.tmp 102) = .pointer (some ⟨L, 3, none⟩) := holds_val (hx (.tmp 102)) (by kernel_rfl)
      (have m3 := (hb.cell (p := ⟨L, 3, none⟩) hz).trans k3; simp [execOp, e102, go_sem, m3]))
  · exact Obl.bin ⟨by kernel_rfl, by kernel_rfl, by kernel_rfl⟩ .geq _ (.tmp 103) (.const (.int .i64 6)) _ rfl (.int .i64 (E : Int)) (.int .i64 6) (.bool false) (by kernel_rfl) (by kernel_rfl) (fun w => by simp [eqGuard, go_sem]; try omega) (by kernel_rfl)
  · exact Obl.pick trivial _ _ _ rfl false (by kernel_rfl) (by kernel_rfl)
  · exact Obl.move trivial _ (Or.inl rfl) (by kernel_rfl)
  · exact Obl.move ⟨by kernel_rfl, by kernel_rfl, by kernel_rfl⟩ _ (Or.inl rfl) (by kernel_rfl)
  · exact Obl.call ⟨by kernel_rfl, by kernel_rfl, by kernel_rfl⟩ 46 #[.tmp 107, .const (.int .u8 104)] _ rfl Try.f46 Try.func46 (by kernel_rfl) (by kernel_rfl) (fun ev w hb hx => by
      have e107 : ev (.tmp 107) = .string (hasS 4) := holds_val (hx (.tmp 107)) (by kernel_rfl)
      have k0 : ev (.const (.int .u8 104)) = (.int .u8 104) := holds_val (hx (.const (.int .u8 104))) (by kernel_rfl)
      simp only [List.map_toArray, List.map_cons, List.map_nil, e107, k0]
      exact (((ref8_in_h (hasS 4) w (hasS_size 4)).mono fun e w' h => still_ans ih h)).mono fun _ _ hh => Val.holds (by kernel_rfl) hh)
  · exact Obl.move ⟨by kernel_rfl, by kernel_rfl, by kernel_rfl⟩ _ (Or.inl rfl) (by kernel_rfl)
  · exact Obl.pure ⟨by kernel_rfl, by kernel_rfl, by kernel_rfl⟩ (.pointer (some ⟨L, 4, none⟩)) (by kernel_rfl) (fun ev w hb hx => by
      have e1 : ev (.tmp 1) = .pointer (some ⟨L, 0, none⟩) := holds_val (hx (.tmp 1)) (by kernel_rfl)
      simp [execOp, e1, go_sem])
  · exact Obl.pure ⟨by kernel_rfl, by kernel_rfl, by kernel_rfl⟩ (.int .i64 (H : Int)) (by kernel_rfl) (fun ev w hb hx => by
      have e110 : ev (.tmp 110) = .pointer (some ⟨L, 4, none⟩) := holds_val (hx (.tmp 110)) (by kernel_rfl)
      (have m4 := (hb.cell (p := ⟨L, 4, none⟩) hz).trans k4; simp [execOp, e110, go_sem, m4]))
  · exact Obl.bin ⟨by kernel_rfl, by kernel_rfl, by kernel_rfl⟩ .lss _ (.tmp 111) (.const (.int .i64 1)) _ rfl (.int .i64 (H : Int)) (.int .i64 1) (.bool false) (by kernel_rfl) (by kernel_rfl) (fun w => by simp [eqGuard, go_sem]; try omega) (by kernel_rfl)
  · exact Obl.move ⟨by kernel_rfl, by kernel_rfl, by kernel_rfl⟩ _ (Or.inl rfl) (by kernel_rfl)
  · exact Obl.pure ⟨by kernel_rfl, by kernel_rfl, by kernel_rfl⟩ (.pointer (some ⟨L, 4, none⟩)) (by kernel_rfl) (fun ev w hb hx => by
      have e1 : ev (.tmp 1) = .pointer (some ⟨L, 0, none⟩) := holds_val (hx (.tmp 1)) (by kernel_rfl)
      simp [execOp, e1, go_sem])
  · exact Obl.pure ⟨by kernel_rfl, by kernel_rfl, by kernel_rfl⟩ (.int .i64 (H : Int)) (by kernel_rfl) (fun ev w hb hx => by
      have e114 : ev (.tmp 114) = .pointer (some ⟨L, 4, none⟩) := holds_val (hx (.tmp 114)) (by kernel_rfl)
      (have m4 := (hb.cell (p := ⟨L, 4, none⟩) hz).trans k4; simp [execOp, e114, go_sem, m4]))
  · exact Obl.bin ⟨by kernel_rfl, by kernel_rfl, by kernel_rfl⟩ .gtr _ (.tmp 115) (.const (.int .i64 8192)) _ rfl (.int .i64 (H : Int)) (.int .i64 8192) (.bool false) (by kernel_rfl) (by kernel_rfl) (fun w => by simp [eqGuard, go_sem]; try omega) (by kernel_rfl)
  · exact Obl.pick ⟨by kernel_rfl, by kernel_rfl, by kernel_rfl⟩ _ _ _ rfl false (by kernel_rfl) (by kernel_rfl)
  · exact Obl.pick ⟨by kernel_rfl, by kernel_rfl, by kernel_rfl⟩ _ _ _ rfl true (by kernel_rfl) (by kernel_rfl)
  · exact Obl.pick trivial _ _ _ rfl false (by kernel_rfl) (by kernel_rfl)
  · exact Obl.move trivial _ (Or.inl rfl) (by kernel_rfl)
  · exact Obl.pure ⟨by kernel_rfl, by kernel_rfl, by kernel_rfl⟩ (.pointer (some ⟨L, 5, none⟩)) (by kernel_rfl) (fun ev w hb hx => by
      have e1 : ev (.tmp 1) = .pointer (some ⟨L, 0, none⟩) := holds_val (hx (.tmp 1)) (by kernel_rfl)
      simp [execOp, e1, go_sem])
  · exact Obl.pure ⟨by kernel_rfl, by kernel_rfl, by kernel_rfl⟩ (.int .i64 (S : Int)) (by kernel_rfl) (fun ev w hb hx => by
      have e121 : ev (.tmp 121) = .pointer (some ⟨L, 5, none⟩) := holds_val (hx (.tmp 121)) (by kernel_rfl)
      (have m5 := (hb.cell (p := ⟨L, 5, none⟩) hz).trans k5; simp [execOp, e121, go_sem, m5]))
  · exact Obl.bin ⟨by kernel_rfl, by kernel_rfl, by kernel_rfl⟩ .lss _ (.tmp 122) (.const (.int .i64 0)) _ rfl (.int .i64 (S : Int)) (.int .i64 0) (.bool false) (by kernel_rfl) (by kernel_rfl) (fun w => by simp [eqGuard, go_sem]; try omega) (by kernel_rfl)
  · exact Obl.pick trivial _ _ _ rfl false (by kernel_rfl) (by kernel_rfl)
  · exact Obl.move trivial _ (Or.inl rfl) (by kernel_rfl)
  · exact Obl.pure ⟨by kernel_rfl, by kernel_rfl, by kernel_rfl⟩ (.pointer (some ⟨L, 5, none⟩)) (by kernel_rfl) (fun ev w hb hx => by
      have e1 : ev (.tmp 1) = .pointer (some ⟨L, 0, none⟩) := holds_val (hx (.tmp 1)) (by kernel_rfl)
      simp [execOp, e1, go_sem])
  · exact Obl.pure ⟨by kernel_rfl, by kernel_rfl, by kernel_rfl⟩ (.int .i64 (S : Int)) (by kernel_rfl) (fun ev w hb hx => by
      have e126 : ev (.tmp 126) = .pointer (some ⟨L, 5, none⟩) := holds_val (hx (.tmp 126)) (by kernel_rfl)
      (have m5 := (hb.cell (p := ⟨L, 5, none⟩) hz).trans k5; simp [execOp, e126, go_sem, m5]))
  · exact Obl.bin ⟨by kernel_rfl, by kernel_rfl, by kernel_rfl⟩ .gtr _ (.tmp 127) (.const (.int .i64 3)) _ rfl (.int .i64 (S : Int)) (.int .i64 3) (.bool false) (by kernel_rfl) (by kernel_rfl) (fun w => by simp [eqGuard, go_sem]; try omega) (by kernel_rfl)
  · exact Obl.pick trivial _ _ _ rfl false (by kernel_rfl) (by kernel_rfl)
  · exact Obl.move trivial _ (Or.inl rfl) (by kernel_rfl)
  · exact Obl.pure ⟨by kernel_rfl, by kernel_rfl, by kernel_rfl⟩ (.pointer (some ⟨L, 6, none⟩)) (by kernel_rfl) (fun ev w hb hx => by
      have e1 : ev (.tmp 1) = .pointer (some ⟨L, 0, none⟩) := holds_val (hx (.tmp 1)) (by kernel_rfl)
      simp [execOp, e1, go_sem])
  · exact Obl.pure ⟨by kernel_rfl, by kernel_rfl, by kernel_rfl⟩ (.int .i64 0) (by kernel_rfl) (fun ev w hb hx => by
      have e131 : ev (.tmp 131) = .pointer (some ⟨L, 6, none⟩) := holds_val (hx (.tmp 131)) (by kernel_rfl)
      (have m6 := (hb.cell (p := ⟨L, 6, none⟩) hz).trans k6; simp [execOp, e131, go_sem, m6]))
  · exact Obl.bin ⟨by kernel_rfl, by kernel_rfl, by kernel_rfl⟩ .lss _ (.tmp 132) (.const (.int .i64 0)) _ rfl (.int .i64 0) (.int .i64 0) (.bool false) (by kernel_rfl) (by kernel_rfl) (fun w => by simp [eqGuard, go_sem]; try omega) (by kernel_rfl)
  · exact Obl.pick trivial _ _ _ rfl false (by kernel_rfl) (by kernel_rfl)
  · exact Obl.move trivial _ (Or.inl rfl) (by kernel_rfl)
  · exact Obl.pure ⟨by kernel_rfl, by kernel_rfl, by kernel_rfl⟩ (.pointer (some ⟨L, 6, none⟩)) (by kernel_rfl) (fun ev w hb hx => by
      have e1 : ev (.tmp 1) = .pointer (some ⟨L, 0, none⟩) := holds_val (hx (.tmp 1)) (by kernel_rfl)
      simp [execOp, e1, go_sem])
  · exact Obl.pure ⟨by kernel_rfl, by kernel_rfl, by kernel_rfl⟩ (.int .i64 0) (by kernel_rfl) (fun ev w hb hx => by
      have e136 : ev (.tmp 136) = .pointer (some ⟨L, 6, none⟩) := holds_val (hx (.tmp 136)) (by kernel_rfl)
      (have m6 := (hb.cell (p := ⟨L, 6, none⟩) hz).trans k6; simp [execOp, e136, go_sem, m6]))
  · exact Obl.bin ⟨by kernel_rfl, by kernel_rfl, by kernel_rfl⟩ .geq _ (.tmp 137) (.const (.int .i64 3)) _ rfl (.int .i64 0) (.int .i64 3) (.bool false) (by kernel_rfl) (by kernel_rfl) (fun w => by simp [eqGuard, go_sem]; try omega) (by kernel_rfl)
  · exact Obl.pick trivial _ _ _ rfl false (by kernel_rfl) (by kernel_rfl)
  · exact Obl.move trivial _ (Or.inl rfl) (by kernel_rfl)
  · exact Obl.pure ⟨by kernel_rfl, by kernel_rfl, by kernel_rfl⟩ (.pointer (some ⟨L, 7, none⟩)) (by kernel_rfl) (fun ev w hb hx => by
      have e1 : ev (.tmp 1) = .pointer (some ⟨L, 0, none⟩) := holds_val (hx (.tmp 1)) (by kernel_rfl)
      simp [execOp, e1, go_sem])
  · exact Obl.pure ⟨by kernel_rfl, by kernel_rfl, by kernel_rfl⟩ (.int .i64 0) (by kernel_rfl) (fun ev w hb hx => by
      have e141 : ev (.tmp 141) = .pointer (some ⟨L, 7, none⟩) := holds_val (hx (.tmp 141)) (by kernel_rfl)
      (have m7 := (hb.cell (p := ⟨L, 7, none⟩) hz).trans k7; simp [execOp, e141, go_sem, m7]))
  · exact Obl.bin ⟨by kernel_rfl, by kernel_rfl, by kernel_rfl⟩ .lss _ (.tmp 142) (.const (.int .i64 0)) _ rfl (.int .i64 0) (.int .i64 0) (.bool false) (by kernel_rfl) (by kernel_rfl) (fun w => by simp [eqGuard, go_sem]; try omega) (by kernel_rfl)
  · exact Obl.pick trivial _ _ _ rfl false (by kernel_rfl) (by kernel_rfl)
  · exact Obl.move trivial _ (Or.inl rfl) (by kernel_rfl)
  · exact Obl.pure ⟨by kernel_rfl, by kernel_rfl, by kernel_rfl⟩ (.pointer (some ⟨L, 7, none⟩)) (by kernel_rfl) (fun ev w hb hx => by
      have e1 : ev (.tmp 1) = .pointer (some ⟨L, 0, none⟩) := holds_val (hx (.tmp 1)) (by kernel_rfl)
      simp [execOp, e1, go_sem])
  · exact Obl.pure ⟨by kernel_rfl, by kernel_rfl, by kernel_rfl⟩ (.int .i64 0) (by kernel_rfl) (fun ev w hb hx => by
      have e146 : ev (.tmp 146) = .pointer (some ⟨L, 7, none⟩) := holds_val (hx (.tmp 146)) (by kernel_rfl)
      (have m7 := (hb.cell (p := ⟨L, 7, none⟩) hz).trans k7; simp [execOp, e146, go_sem, m7]))
  · exact Obl.bin ⟨by kernel_rfl, by kernel_rfl, by kernel_rfl⟩ .gtr _ (.tmp 147) (.const (.int .i64 255)) _ rfl (.int .i64 0) (.int .i64 255) (.bool false) (by kernel_rfl) (by kernel_rfl) (fun w => by simp [eqGuard, go_sem]; try omega) (by kernel_rfl)
  · exact Obl.pick trivial _ _ _ rfl false (by kernel_rfl) (by kernel_rfl)
  intro a WR hb hsz hdf hold hv
  have ha := act_puts [84, 85, 86, 87, 88, 89, 90, 91, 92, 93, 94, 95, 96, 97, 98, 99, 100, 101, 102, 103, 104, 105, 106, 107, 108, 109, 110, 111, 112, 113, 114, 115, 116, 117, 118, 119, 120, 121, 122, 123, 124, 125, 126, 127, 128, 129, 130, 131, 132, 133, 134, 135, 136, 137, 138, 139, 140, 141, 142, 143, 144, 145, 146, 147, 148, 149] (by kernel_rfl) hsz hdf hold
  simp only [putAll] at ha
  have z149 : a.tmps.getD 149 undef = .bool false := holds_val (hv 65 149 (by kernel_rfl)) (by kernel_rfl)
  rw [z149] at ha
  generalize a.tmps.getD 84 undef = x84 at ha
  generalize a.tmps.getD 85 undef = x85 at ha
  generalize a.tmps.getD 86 undef = x86 at ha
  generalize a.tmps.getD 87 undef = x87 at ha
  generalize a.tmps.getD 88 undef = x88 at ha
  generalize a.tmps.getD 89 undef = x89 at ha
  generalize a.tmps.getD 90 undef = x90 at ha
  generalize a.tmps.getD 91 undef = x91 at ha
  generalize a.tmps.getD 92 undef = x92 at ha
  generalize a.tmps.getD 93 undef = x93 at ha
  generalize a.tmps.getD 94 undef = x94 at ha
  generalize a.tmps.getD 95 undef = x95 at ha
  generalize a.tmps.getD 96 undef = x96 at ha
  generalize a.tmps.getD 97 undef = x97 at ha
  generalize a.tmps.getD 98 undef = x98 at ha
  generalize a.tmps.getD 99 undef = x99 at ha
  generalize a.tmps.getD 100 undef = x100 at ha
  generalize a.tmps.getD 101 undef = x101 at ha
  generalize a.tmps.getD 102 undef = x102 at ha
  generalize a.tmps.getD 103 undef = x103 at ha
  generalize a.tmps.getD 104 undef = x104 at ha
  generalize a.tmps.getD 105 undef = x105 at ha
  generalize a.tmps.getD 106 undef = x106 at ha
  generalize a.tmps.getD 107 undef = x107 at ha
  generalize a.tmps.getD 108 undef = x108 at ha
  generalize a.tmps.getD 109 undef = x109 at ha
  generalize a.tmps.getD 110 undef = x110 at ha
  generalize a.tmps.getD 111 undef = x111 at ha
  generalize a.tmps.getD 112 undef = x112 at ha
  generalize a.tmps.getD 113 undef = x113 at ha
  generalize a.tmps.getD 114 undef = x114 at ha
  generalize a.tmps.getD 115 undef = x115 at ha
  generalize a.tmps.getD 116 undef = x116 at ha
  generalize a.tmps.getD 117 undef = x117 at ha
  generalize a.tmps.getD 118 undef = x118 at ha
  generalize a.tmps.getD 119 undef = x119 at ha
  generalize a.tmps.getD 120 undef = x120 at ha
  generalize a.tmps.getD 121 undef = x121 at ha
  generalize a.tmps.getD 122 undef = x122 at ha
  generalize a.tmps.getD 123 undef = x123 at ha
  generalize a.tmps.getD 124 undef = x124 at ha
  generalize a.tmps.getD 125 undef = x125 at ha
  generalize a.tmps.getD 126 undef = x126 at ha
  generalize a.tmps.getD 127 undef = x127 at ha
  generalize a.tmps.getD 128 undef = x128 at ha
  generalize a.tmps.getD 129 undef = x129 at ha
  generalize a.tmps.getD 130 undef = x130 at ha
  generalize a.tmps.getD 131 undef = x131 at ha
  generalize a.tmps.getD 132 undef = x132 at ha
  generalize a.tmps.getD 133 undef = x133 at ha
  generalize a.tmps.getD 134 undef = x134 at ha
  generalize a.tmps.getD 135 undef = x135 at ha
  generalize a.tmps.getD 136 undef = x136 at ha
  generalize a.tmps.getD 137 undef = x137 at ha
  generalize a.tmps.getD 138 undef = x138 at ha
  generalize a.tmps.getD 139 undef = x139 at ha
  generalize a.tmps.getD 140 undef = x140 at ha
  generalize a.tmps.getD 141 undef = x141 at ha
  generalize a.tmps.getD 142 undef = x142 at ha
  generalize a.tmps.getD 143 undef = x143 at ha
  generalize a.tmps.getD 144 undef = x144 at ha
  generalize a.tmps.getD 145 undef = x145 at ha
  generalize a.tmps.getD 146 undef = x146 at ha
  generalize a.tmps.getD 147 undef = x147 at ha
  generalize a.tmps.getD 148 undef = x148 at ha
  clear hv hold hsz hdf z149
  subst ha
  simp only [Act.put, List.setIfInBounds_toArray, List.set_cons_succ, List.set_cons_zero]
  have b2 := b2.trans (hb.mono (by have := HLL.out; omega))
  clear hb k0 k1 k2 k3 k4 k5 k6 k7
  go_wp2_with fail
  refine (ref8_in_l (hasS 4) _ (hasS_size 4)).mono ?_
  rintro e w' ⟨rfl, rfl⟩
  go_wp2_with fail
  go_ret
  exact ⟨rfl, HLL.out ▸ b2⟩
set_option maxHeartbeats 8000000 in
theorem right8_5 (E : Nat) (hE : E ≤ 5) (A : Option Addr) (c : Nat) (w : World) : Calls Try.prog 28 #[.agg #[.int .i64 5, .int .i64 0, .slice A 0 c, .int .i64 (E : Int), .int .i64 0, .int .i64 0, .int .i64 0, .int .i64 0]] w (Ans (.int .i64 0) w) := by
  have ic : inS8 (hasS 5) 99 = false := by decide
  have il : inS8 (hasS 5) 108 = false := by decide
  have ip : inS8 (hasS 5) 112 = true := by decide
  have ih : inS8 (hasS 5) 104 = false := by decide
  have ik : inS8 (hasS 5) 107 = false := by decide
  have iy : inS8 (hasS 5) 121 = false := by decide
  have ie : inS8 (hasS 5) 101 = false := by decide
  have kc := blk8 (Blk.new w 25 #[.int .i64 5, .int .i64 0, .slice A 0 c, .int .i64 (E : Int), .int .i64 0, .int .i64 0, .int .i64 0, .int .i64 0])
  have b0 := below_alloc w (.cells #[.int .i64 5, .int .i64 0, .slice A 0 c, .int .i64 (E : Int), .int .i64 0, .int .i64 0, .int .i64 0, .int .i64 0] 25)
  have hz : w.heap.size < (w.alloc (.cells #[.int .i64 5, .int .i64 0, .slice A 0 c, .int .i64 (E : Int), .int .i64 0, .int .i64 0, .int .i64 0, .int .i64 0] 25)).heap.size := by simp
  go_enter Try.func28, Try.ntmps28
  go_upto_region 1 with (fail)
  generalize w.alloc (.cells #[.int .i64 5, .int .i64 0, .slice A 0 c, .int .i64 (E : Int), .int .i64 0, .int .i64 0, .int .i64 0, .int .i64 0] 25) = W0 at kc b0 hz ⊢
  go_wp2_with fail
  refine (ref8_has 5 (by decide) (by decide) _).mono ?_
  rintro e W1 ⟨rfl, b1⟩
  have k0 := (b1.cell (p := ⟨w.heap.size, 0, none⟩) hz).trans kc.1
  have k1 := (b1.cell (p := ⟨w.heap.size, 1, none⟩) hz).trans kc.2.1
  have k2 := (b1.cell (p := ⟨w.heap.size, 2, none⟩) hz).trans kc.2.2.1
  have k3 := (b1.cell (p := ⟨w.heap.size, 3, none⟩) hz).trans kc.2.2.2.1
  have k4 := (b1.cell (p := ⟨w.heap.size, 4, none⟩) hz).trans kc.2.2.2.2.1
  have k5 := (b1.cell (p := ⟨w.heap.size, 5, none⟩) hz).trans kc.2.2.2.2.2.1
  have k6 := (b1.cell (p := ⟨w.heap.size, 6, none⟩) hz).trans kc.2.2.2.2.2.2.1
  have k7 := (b1.cell (p := ⟨w.heap.size, 7, none⟩) hz).trans kc.2.2.2.2.2.2.2
  have b2 := b0.trans (b1.mono b0.size)
  have hz := Nat.lt_of_lt_of_le hz b1.size
  clear kc b0 b1
  obtain ⟨L, hLL⟩ : ∃ L, L = w.heap.size := ⟨_, rfl⟩
  rw [← hLL] at k0 k1 k2 k3 k4 k5 k6 k7 hz b2
  have HLL := Lib.hid hLL
  go_upto_region 4 with (fail)
  rw [← hLL]
  clear hLL
  have q0 := Lib.hid k0
  have q1 := Lib.hid k1
  have q2 := Lib.hid k2
  have q3 := Lib.hid k3
  have q4 := Lib.hid k4
  have q5 := Lib.hid k5
  have q6 := Lib.hid k6
  have q7 := Lib.hid k7
  refine wp_region_seq [.val (.string (hasS 5)), .val (.bool false), .val (.bool true), .val (.bool true), .val (.pointer (some ⟨L, 1, none⟩)), .val (.int .i64 0), .val (.bool false), .val (.bool false), .val (.bool false), .val (.string (hasS 5)), .val (.bool false), .val (.bool true), .val (.bool true), .val (.pointer (some ⟨L, 2, none⟩)), .val (.slice A 0 c), .val (.int .i64 (0 : Nat)), .val (.bool false), .val (.bool false), .val (.bool false), .val (.bool false), .val (.string (hasS 5)), .val (.bool true), .val (.bool false), .val (.bool false), .val (undef), .val (undef), .val (undef), .val (.bool false), .val (.bool false), .val (.bool false), .val (.string (hasS 5)), .val (.bool false), .val (.bool true), .val (.bool true), .val (.pointer (some ⟨L, 4, none⟩)), .val (.int .i64 0), .val (.bool false), .val (.bool false), .val (.bool false), .val (.bool false), .val (.string (hasS 5)), .val (.bool false), .val (.bool true), .val (.bool true), .val (.pointer (some ⟨L, 5, none⟩)), .val (.int .i64 0), .val (.bool false), .val (.bool false), .val (.bool false), .val (.bool false), .val (.string (hasS 5)), .val (.bool false), .val (.bool true), .val (.bool true), .val (.pointer (some ⟨L, 6, none⟩)), .val (.int .i64 0), .val (.bool false), .val (.bool false), .val (.bool false), .val (.bool false), .val (.string (hasS 5)), .val (.bool false), .val (.bool true), .val (.bool true), .val (.pointer (some ⟨L, 7, none⟩)), .val (.int .i64 0), .val (.bool false), .val (.bool false), .val (.bool false)] (by kernel_rfl) (by kernel_rfl) (AllObl.all ⟨?_, ?_, ?_, ?_, ?_, ?_, ?_, ?_, ?_, ?_, ?_, ?_, ?_, ?_, ?_, ?_, ?_, ?_, ?_, ?_, ?_, ?_, ?_, ?_, ?_, ?_, ?_, ?_, ?_, ?_, ?_, ?_, ?_, ?_, ?_, ?_, ?_, ?_, ?_, ?_, ?_, ?_, ?_, ?_, ?_, ?_, ?_, ?_, ?_, ?_, ?_, ?_, ?_, ?_, ?_, ?_, ?_, ?_, ?_, ?_, ?_, ?_, ?_, ?_, ?_, ?_, ?_, ?_, ?_, trivial⟩) ?_
  · exact Obl.move trivial _ (Or.inl rfl) (by kernel_rfl)
  · exact Obl.call trivial 46 #[.tmp 15, .const (.int .u8 99)] _ rfl Try.f46 Try.func46 (by kernel_rfl) (by kernel_rfl) (fun ev w hb hx => by
      have e15 : ev (.tmp 15) = .string (hasS 5) := holds_val (hx (.tmp 15)) (by kernel_rfl)
      have k0 : ev (.const (.int .u8 99)) = (.int .u8 99) := holds_val (hx (.const (.int .u8 99))) (by kernel_rfl)
      simp only [List.map_toArray, List.map_cons, List.map_nil, e15, k0]
      exact (((ref8_in_c (hasS 5) w (hasS_size 5)).mono fun e w' h => still_ans ic h)).mono fun _ _ hh => Val.holds (by kernel_rfl) hh)
  · exact Obl.un trivial .not _ (.tmp 16) rfl (.bool false) (.bool true) (by kernel_rfl) (fun w => by simp [go_sem]) (by kernel_rfl)
  · exact Obl.move trivial _ (Or.inl rfl) (by kernel_rfl)
  · exact Obl.pure ⟨by kernel_rfl, by kernel_rfl, by kernel_rfl⟩ (.pointer (some ⟨L, 1, none⟩)) (by kernel_rfl) (fun ev w hb hx => by
      have e1 : ev (.tmp 1) = .pointer (some ⟨L, 0, none⟩) := holds_val (hx (.tmp 1)) (by kernel_rfl)
      simp [execOp, e1, go_sem])
  · exact Obl.pure ⟨by kernel_rfl, by kernel_rfl, by kernel_rfl⟩ (.int .i64 0) (by kernel_rfl) (fun ev w hb hx => by
      have e19 : ev (.tmp 19) = .pointer (some ⟨L, 1, none⟩) := holds_val (hx (.tmp 19)) (by kernel_rfl)
      (have m1 := (hb.cell (p := ⟨L, 1, none⟩) hz).trans k1; simp [execOp, e19, go_sem, m1]))
  · exact Obl.bin ⟨by kernel_rfl, by kernel_rfl, by kernel_rfl⟩ .neq _ (.tmp 20) (.const (.int .i64 0)) _ rfl (.int .i64 0) (.int .i64 0) (.bool false) (by kernel_rfl) (by kernel_rfl) (fun w => by simp [eqGuard, go_sem]; try omega) (by kernel_rfl)
  · exact Obl.pick trivial _ _ _ rfl true (by kernel_rfl) (by kernel_rfl)
  · exact Obl.move trivial _ (Or.inl rfl) (by kernel_rfl)
  · exact Obl.move ⟨by kernel_rfl, by kernel_rfl, by kernel_rfl⟩ _ (Or.inl rfl) (by kernel_rfl)
  · exact Obl.call ⟨by kernel_rfl, by kernel_rfl, by kernel_rfl⟩ 46 #[.tmp 24, .const (.int .u8 108)] _ rfl Try.f46 Try.func46 (by kernel_rfl) (by kernel_rfl) (fun ev w hb hx => by
      have e24 : ev (.tmp 24) = .string (hasS 5) := holds_val (hx (.tmp 24)) (by kernel_rfl)
      have k0 : ev (.const (.int .u8 108)) = (.int .u8 108) := holds_val (hx (.const (.int .u8 108))) (by kernel_rfl)
      simp only [List.map_toArray, List.map_cons, List.map_nil, e24, k0]
      exact (((ref8_in_l (hasS 5) w (hasS_size 5)).mono fun e w' h => still_ans il h)).mono fun _ _ hh => Val.holds (by kernel_rfl) hh)
  · exact Obl.un ⟨by kernel_rfl, by kernel_rfl, by kernel_rfl⟩ .not _ (.tmp 25) rfl (.bool false) (.bool true) (by kernel_rfl) (fun w => by simp [go_sem]) (by kernel_rfl)
  · exact Obl.move ⟨by kernel_rfl, by kernel_rfl, by kernel_rfl⟩ _ (Or.inl rfl) (by kernel_rfl)
  · exact Obl.pure ⟨by kernel_rfl, by kernel_rfl, by kernel_rfl⟩ (.pointer (some ⟨L, 2, none⟩)) (by kernel_rfl) (fun ev w hb hx => by
      have e1 : ev (.tmp 1) = .pointer (some ⟨L, 0, none⟩) := holds_val (hx (.tmp 1)) (by kernel_rfl)
      simp [execOp, e1, go_sem])
  · exact Obl.pure ⟨by kernel_rfl, by kernel_rfl, by kernel_rfl⟩ (.slice A 0 c) (by kernel_rfl) (fun ev w hb hx => by
      have e28 : ev (.tmp 28) = .pointer (some ⟨L, 2, none⟩) := holds_val (hx (.tmp 28)) (by kernel_rfl)
      (have m2 := (hb.cell (p := ⟨L, 2, none⟩) hz).trans k2; simp [execOp, e28, go_sem, m2]))
  · exact Obl.lenV (x := (.tmp 29)) ⟨by kernel_rfl, by kernel_rfl, by kernel_rfl⟩ _ _ Try.underlying23 rfl (A) (0) (c) (by kernel_rfl) (by kernel_rfl)
  · exact Obl.bin ⟨by kernel_rfl, by kernel_rfl, by kernel_rfl⟩ .gtr _ (.tmp 30) (.const (.int .i64 0)) _ rfl (.int .i64 (0 : Nat)) (.int .i64 0) (.bool false) (by kernel_rfl) (by kernel_rfl) (fun w => by simp [eqGuard, go_sem]; try omega) (by kernel_rfl)
  · exact Obl.pick ⟨by kernel_rfl, by kernel_rfl, by kernel_rfl⟩ _ _ _ rfl true (by kernel_rfl) (by kernel_rfl)
  · exact Obl.pick trivial _ _ _ rfl false (by kernel_rfl) (by kernel_rfl)
  · exact Obl.move trivial _ (Or.inl rfl) (by kernel_rfl)
  · exact Obl.move ⟨by kernel_rfl, by kernel_rfl, by kernel_rfl⟩ _ (Or.inl rfl) (by kernel_rfl)
  · exact Obl.call ⟨by kernel_rfl, by kernel_rfl, by kernel_rfl⟩ 46 #[.tmp 35, .const (.int .u8 112)] _ rfl Try.f46 Try.func46 (by kernel_rfl) (by kernel_rfl) (fun ev w hb hx => by
      have e35 : ev (.tmp 35) = .string (hasS 5) := holds_val (hx (.tmp 35)) (by kernel_rfl)
      have k0 : ev (.const (.int .u8 112)) = (.int .u8 112) := holds_val (hx (.const (.int .u8 112))) (by kernel_rfl)
      simp only [List.map_toArray, List.map_cons, List.map_nil, e35, k0]
      exact (((ref8_in_p (hasS 5) w (hasS_size 5)).mono fun e w' h => still_ans ip h)).mono fun _ _ hh => Val.holds (by kernel_rfl) hh)
  · exact Obl.un ⟨by kernel_rfl, by kernel_rfl, by kernel_rfl⟩ .not _ (.tmp 36) rfl (.bool true) (.bool false) (by kernel_rfl) (fun w => by simp [go_sem]) (by kernel_rfl)
  · exact Obl.move ⟨by kernel_rfl, by kernel_rfl, by kernel_rfl⟩ _ (Or.inl rfl) (by kernel_rfl)
  · exact Obl.skip 23 true (.bool false) rfl (by kernel_rfl) (by kernel_rfl) (by kernel_rfl) (by kernel_rfl) (fun w => holds_undef (by kernel_rfl))
  · exact Obl.skip 23 true (.bool false) rfl (by kernel_rfl) (by kernel_rfl) (by kernel_rfl) (by kernel_rfl) (fun w => holds_undef (by kernel_rfl))
  · exact Obl.skip 23 true (.bool false) rfl (by kernel_rfl) (by kernel_rfl) (by kernel_rfl) (by kernel_rfl) (fun w => holds_undef (by kernel_rfl))
  · exact Obl.pick ⟨by kernel_rfl, by kernel_rfl, by kernel_rfl⟩ _ _ _ rfl false (by kernel_rfl) (by kernel_rfl)
  · exact Obl.pick trivial _ _ _ rfl false (by kernel_rfl) (by kernel_rfl)
  · exact Obl.move trivial _ (Or.inl rfl) (by kernel_rfl)
  · exact Obl.move ⟨by kernel_rfl, by kernel_rfl, by kernel_rfl⟩ _ (Or.inl rfl) (by kernel_rfl)
  · exact Obl.call ⟨by kernel_rfl, by kernel_rfl, by kernel_rfl⟩ 46 #[.tmp 45, .const (.int .u8 104)] _ rfl Try.f46 Try.func46 (by kernel_rfl) (by kernel_rfl) (fun ev w hb hx => by
      have e45 : ev (.tmp 45) = .string (hasS 5) := holds_val (hx (.tmp 45)) (by kernel_rfl)
      have k0 : ev (.const (.int .u8 104)) = (.int .u8 104) := holds_val (hx (.const (.int .u8 104))) (by kernel_rfl)
      simp only [List.map_toArray, List.map_cons, List.map_nil, e45, k0]
      exact (((ref8_in_h (hasS 5) w (hasS_size 5)).mono fun e w' h => still_ans ih h)).mono fun _ _ hh => Val.holds (by kernel_rfl) hh)
  · exact Obl.un ⟨by kernel_rfl, by kernel_rfl, by kernel_rfl⟩ .not _ (.tmp 46) rfl (.bool false) (.bool true) (by kernel_rfl) (fun w => by simp [go_sem]) (by kernel_rfl)
  · exact Obl.move ⟨by kernel_rfl, by kernel_rfl, by kernel_rfl⟩ _ (Or.inl rfl) (by kernel_rfl)
  · exact Obl.pure ⟨by kernel_rfl, by kernel_rfl, by kernel_rfl⟩ (.pointer (some ⟨L, 4, none⟩)) (by kernel_rfl) (fun ev w hb hx => by
      have e1 : ev (.tmp 1) = .pointer (some ⟨L, 0, none⟩) := holds_val (hx (.tmp 1)) (by kernel_rfl)
      simp [execOp, e1, go_sem])
  · exact Obl.pure ⟨by kernel_rfl, by kernel_rfl, by kernel_rfl⟩ (.int .i64 0) (by kernel_rfl) (fun ev w hb hx => by
      have e49 : ev (.tmp 49) = .pointer (some ⟨L, 4, none⟩) := holds_val (hx (.tmp 49)) (by kernel_rfl)
      (have m4 := (hb.cell (p := ⟨L, 4, none⟩) hz).trans k4; simp [execOp, e49, go_sem, m4]))
  · exact Obl.bin ⟨by kernel_rfl, by kernel_rfl, by kernel_rfl⟩ .neq _ (.tmp 50) (.const (.int .i64 0)) _ rfl (.int .i64 0) (.int .i64 0) (.bool false) (by kernel_rfl) (by kernel_rfl) (fun w => by simp [eqGuard, go_sem]; try omega) (by kernel_rfl)
  · exact Obl.pick ⟨by kernel_rfl, by kernel_rfl, by kernel_rfl⟩ _ _ _ rfl true (by kernel_rfl) (by kernel_rfl)
  · exact Obl.pick trivial _ _ _ rfl false (by kernel_rfl) (by kernel_rfl)
  · exact Obl.move trivial _ (Or.inl rfl) (by kernel_rfl)
  · exact Obl.move ⟨by kernel_rfl, by kernel_rfl, by kernel_rfl⟩ _ (Or.inl rfl) (by kernel_rfl)
  · exact Obl.call ⟨by kernel_rfl, by kernel_rfl, by kernel_rfl⟩ 46 #[.tmp 55, .const (.int .u8 107)] _ rfl Try.f46 Try.func46 (by kernel_rfl) (by kernel_rfl) (fun ev w hb hx => by
      have e55 : ev (.tmp 55) = .string (hasS 5) := holds_val (hx (.tmp 55)) (by kernel_rfl)
      have k0 : ev (.const (.int .u8 107)) = (.int .u8 107) := holds_val (hx (.const (.int .u8 107))) (by kernel_rfl)
      simp only [List.map_toArray, List.map_cons, List.map_nil, e55, k0]
      exact (((ref8_in_k (hasS 5) w (hasS_size 5)).mono fun e w' h => still_ans ik h)).mono fun _ _ hh => Val.holds (by kernel_rfl) hh)
  · exact Obl.un ⟨by kernel_rfl, by kernel_rfl, by kernel_rfl⟩ .not _ (.tmp 56) rfl (.bool false) (.bool true) (by kernel_rfl) (fun w => by simp [go_sem]) (by kernel_rfl)
  · exact Obl.move ⟨by kernel_rfl, by kernel_rfl, by kernel_rfl⟩ _ (Or.inl rfl) (by kernel_rfl)
  · exact Obl.pure ⟨by kernel_rfl, by kernel_rfl, by kernel_rfl⟩ (.pointer (some ⟨L, 5, none⟩)) (by kernel_rfl) (fun ev w hb hx => by
      have e1 : ev (.tmp 1) = .pointer (some ⟨L, 0, none⟩) := holds_val (hx (.tmp 1)) (by kernel_rfl)
      simp [execOp, e1, go_sem])
  · exact Obl.pure ⟨by kernel_rfl, by kernel_rfl, by kernel_rfl⟩ (.int .i64 0) (by kernel_rfl) (fun ev w hb hx => by
      have e59 : ev (.tmp 59) = .pointer (some ⟨L, 5, none⟩) := holds_val (hx (.tmp 59)) (by kernel_rfl)
      (have m5 := (hb.cell (p := ⟨L, 5, none⟩) hz).trans k5; simp [execOp, e59, go_sem, m5]))
  · exact Obl.bin ⟨by kernel_rfl, by kernel_rfl, by kernel_rfl⟩ .neq _ (.tmp 60) (.const (.int .i64 0)) _ rfl (.int .i64 0) (.int .i64 0) (.bool false) (by kernel_rfl) (by kernel_rfl) (fun w => by simp [eqGuard, go_sem]; try omega) (by kernel_rfl)
  · exact Obl.pick ⟨by kernel_rfl, by kernel_rfl, by kernel_rfl⟩ _ _ _ rfl true (by kernel_rfl) (by kernel_rfl)
  · exact Obl.pick trivial _ _ _ rfl false (by kernel_rfl) (by kernel_rfl)
  · exact Obl.move trivial _ (Or.inl rfl) (by kernel_rfl)
  · exact Obl.move ⟨by kernel_rfl, by kernel_rfl, by kernel_rfl⟩ _ (Or.inl rfl) (by kernel_rfl)
  · exact Obl.call ⟨by kernel_rfl, by kernel_rfl, by kernel_rfl⟩ 46 #[.tmp 65, .const (.int .u8 121)] _ rfl Try.f46 Try.func46 (by kernel_rfl) (by kernel_rfl) (fun ev w hb hx => by
      have e65 : ev (.tmp 65) = .string (hasS 5) := holds_val (hx (.tmp 65)) (by kernel_rfl)
      have k0 : ev (.const (.int .u8 121)) = (.int .u8 121) := holds_val (hx (.const (.int .u8 121))) (by kernel_rfl)
      simp only [List.map_toArray, List.map_cons, List.map_nil, e65, k0]
      exact (((ref8_in_y (hasS 5) w (hasS_size 5)).mono fun e w' h => still_ans iy h)).mono fun _ _ hh => Val.holds (by kernel_rfl) hh)
  · exact Obl.un ⟨by kernel_rfl, by kernel_rfl, by kernel_rfl⟩ .not _ (.tmp 66) rfl (.bool false) (.bool true) (by kernel_rfl) (fun w => by simp [go_sem]) (by kernel_rfl)
  · exact Obl.move ⟨by kernel_rfl, by kernel_rfl, by kernel_rfl⟩ _ (Or.inl rfl) (by kernel_rfl)
  · exact Obl.pure ⟨by kernel_rfl, by kernel_rfl, by kernel_rfl⟩ (.pointer (some ⟨L, 6, none⟩)) (by kernel_rfl) (fun ev w hb hx => by
      have e1 : ev (.tmp 1) = .pointer (some ⟨L, 0, none⟩) := holds_val (hx (.tmp 1)) (by kernel_rfl)
      simp [execOp, e1, go_sem])
  · exact Obl.pure ⟨by kernel_rfl, by kernel_rfl, by kernel_rfl⟩ (.int .i64 0) (by kernel_rfl) (fun ev w hb hx => by
      have e69 : ev (.tmp 69) = .pointer (some ⟨L, 6, none⟩) := holds_val (hx (.tmp 69)) (by kernel_rfl)
      (have m6 := (hb.cell (p := ⟨L, 6, none⟩) hz).trans k6; simp [execOp, e69, go_sem, m6]))
  · exact Obl.bin ⟨by kernel_rfl, by kernel_rfl, by kernel_rfl⟩ .neq _ (.tmp 70) (.const (.int .i64 0)) _ rfl (.int .i64 0) (.int .i64 0) (.bool false) (by kernel_rfl) (by kernel_rfl) (fun w => by simp [eqGuard, go_sem]; try omega) (by kernel_rfl)
  · exact Obl.pick ⟨by kernel_rfl, by kernel_rfl, by kernel_rfl⟩ _ _ _ rfl true (by kernel_rfl) (by kernel_rfl)
  · exact Obl.pick trivial _ _ _ rfl false (by kernel_rfl) (by kernel_rfl)
  · exact Obl.move trivial _ (Or.inl rfl) (by kernel_rfl)
  · exact Obl.move ⟨by kernel_rfl, by kernel_rfl, by kernel_rfl⟩ _ (Or.inl rfl) (by kernel_rfl)
  · exact Obl.call ⟨by kernel_rfl, by kernel_rfl, by kernel_rfl⟩ 46 #[.tmp 75, .const (.int .u8 101)] _ rfl Try.f46 Try.func46 (by kernel_rfl) (by kernel_rfl) (fun ev w hb hx => by
      have e75 : ev (.tmp 75) = .string (hasS 5) := holds_val (hx (.tmp 75)) (by kernel_rfl)
      have k0 : ev (.const (.int .u8 101)) = (.int .u8 101) := holds_val (hx (.const (.int .u8 101))) (by kernel_rfl)
      simp only [List.map_toArray, List.map_cons, List.map_nil, e75, k0]
      exact (((ref8_in_e (hasS 5) w (hasS_size 5)).mono fun e w' h => still_ans ie h)).mono fun _ _ hh => Val.holds (by kernel_rfl) hh)
  · exact Obl.un ⟨by kernel_rfl, by kernel_rfl, by kernel_rfl⟩ .not _ (.tmp 76) rfl (.bool false) (.bool true) (by kernel_rfl) (fun w => by simp [go_sem]) (by kernel_rfl)
  · exact Obl.move ⟨by kernel_rfl, by kernel_rfl, by kernel_rfl⟩ _ (Or.inl rfl) (by kernel_rfl)
  · exact Obl.pure ⟨by kernel_rfl, by kernel_rfl, by kernel_rfl⟩ (.pointer (some ⟨L, 7, none⟩)) (by kernel_rfl) (fun ev w hb hx => by
      have e1 : ev (.tmp 1) = .pointer (some ⟨L, 0, none⟩) := holds_val (hx (.tmp 1)) (by kernel_rfl)
      simp [execOp, e1, go_sem])
  · exact Obl.pure ⟨by kernel_rfl, by kernel_rfl, by kernel_rfl⟩ (.int .i64 0) (by kernel_rfl) (fun ev w hb hx => by
      have e79 : ev (.tmp 79) = .pointer (some ⟨L, 7, none⟩) := holds_val (hx (.tmp 79)) (by kernel_rfl)
      (have m7 := (hb.cell (p := ⟨L, 7, none⟩) hz).trans k7; simp [execOp, e79, go_sem, m7]))
  · exact Obl.bin ⟨by kernel_rfl, by kernel_rfl, by kernel_rfl⟩ .neq _ (.tmp 80) (.const (.int .i64 0)) _ rfl (.int .i64 0) (.int .i64 0) (.bool false) (by kernel_rfl) (by kernel_rfl) (fun w => by simp [eqGuard, go_sem]; try omega) (by kernel_rfl)
  · exact Obl.pick ⟨by kernel_rfl, by kernel_rfl, by kernel_rfl⟩ _ _ _ rfl true (by kernel_rfl) (by kernel_rfl)
  · exact Obl.pick trivial _ _ _ rfl false (by kernel_rfl) (by kernel_rfl)
  intro a WR hb hsz hdf hold hv
  have ha := act_puts [15, 16, 17, 18, 19, 20, 21, 22, 23, 24, 25, 26, 27, 28, 29, 30, 31, 32, 33, 34, 35, 36, 37, 38, 39, 40, 41, 42, 43, 44, 45, 46, 47, 48, 49, 50, 51, 52, 53, 54, 55, 56, 57, 58, 59, 60, 61, 62, 63, 64, 65, 66, 67, 68, 69, 70, 71, 72, 73, 74, 75, 76, 77, 78, 79, 80, 81, 82, 83] (by kernel_rfl) hsz hdf hold
  simp only [putAll] at ha
  have z83 : a.tmps.getD 83 undef = .bool false := holds_val (hv 68 83 (by kernel_rfl)) (by kernel_rfl)
  rw [z83] at ha
  generalize a.tmps.getD 15 undef = x15 at ha
  generalize a.tmps.getD 16 undef = x16 at ha
  generalize a.tmps.getD 17 undef = x17 at ha
  generalize a.tmps.getD 18 undef = x18 at ha
  generalize a.tmps.getD 19 undef = x19 at ha
  generalize a.tmps.getD 20 undef = x20 at ha
  generalize a.tmps.getD 21 undef = x21 at ha
  generalize a.tmps.getD 22 undef = x22 at ha
  generalize a.tmps.getD 23 undef = x23 at ha
  generalize a.tmps.getD 24 undef = x24 at ha
  generalize a.tmps.getD 25 undef = x25 at ha
  generalize a.tmps.getD 26 undef = x26 at ha
  generalize a.tmps.getD 27 undef = x27 at ha
  generalize a.tmps.getD 28 undef = x28 at ha
  generalize a.tmps.getD 29 undef = x29 at ha
  generalize a.tmps.getD 30 undef = x30 at ha
  generalize a.tmps.getD 31 undef = x31 at ha
  generalize a.tmps.getD 32 undef = x32 at ha
  generalize a.tmps.getD 33 undef = x33 at ha
  generalize a.tmps.getD 34 undef = x34 at ha
  generalize a.tmps.getD 35 undef = x35 at ha
  generalize a.tmps.getD 36 undef = x36 at ha
  generalize a.tmps.getD 37 undef = x37 at ha
  generalize a.tmps.getD 38 undef = x38 at ha
  generalize a.tmps.getD 39 undef = x39 at ha
  generalize a.tmps.getD 40 undef = x40 at ha
  generalize a.tmps.getD 41 undef = x41 at ha
  generalize a.tmps.getD 42 undef = x42 at ha
  generalize a.tmps.getD 43 undef = x43 at ha
  generalize a.tmps.getD 44 undef = x44 at ha
  generalize a.tmps.getD 45 undef = x45 at ha
  generalize a.tmps.getD 46 undef = x46 at ha
  generalize a.tmps.getD 47 undef = x47 at ha
  generalize a.tmps.getD 48 undef = x48 at ha
  generalize a.tmps.getD 49 undef = x49 at ha
  generalize a.tmps.getD 50 undef = x50 at ha
  generalize a.tmps.getD 51 undef = x51 at ha
  generalize a.tmps.getD 52 undef = x52 at ha
  generalize a.tmps.getD 53 undef = x53 at ha
  generalize a.tmps.getD 54 undef = x54 at ha
  generalize a.tmps.getD 55 undef = x55 at ha
  generalize a.tmps.getD 56 undef = x56 at ha
  generalize a.tmps.getD 57 undef = x57 at ha
  generalize a.tmps.getD 58 undef = x58 at ha
  generalize a.tmps.getD 59 undef = x59 at ha
  generalize a.tmps.getD 60 undef = x60 at ha
  generalize a.tmps.getD 61 undef = x61 at ha
  generalize a.tmps.getD 62 undef = x62 at ha
  generalize a.tmps.getD 63 undef = x63 at ha
  generalize a.tmps.getD 64 undef = x64 at ha
  generalize a.tmps.getD 65 undef = x65 at ha
  generalize a.tmps.getD 66 undef = x66 at ha
  generalize a.tmps.getD 67 undef = x67 at ha
  generalize a.tmps.getD 68 undef = x68 at ha
  generalize a.tmps.getD 69 undef = x69 at ha
  generalize a.tmps.getD 70 undef = x70 at ha
  generalize a.tmps.getD 71 undef = x71 at ha
  generalize a.tmps.getD 72 undef = x72 at ha
  generalize a.tmps.getD 73 undef = x73 at ha
  generalize a.tmps.getD 74 undef = x74 at ha
  generalize a.tmps.getD 75 undef = x75 at ha
  generalize a.tmps.getD 76 undef = x76 at ha
  generalize a.tmps.getD 77 undef = x77 at ha
  generalize a.tmps.getD 78 undef = x78 at ha
  generalize a.tmps.getD 79 undef = x79 at ha
  generalize a.tmps.getD 80 undef = x80 at ha
  generalize a.tmps.getD 81 undef = x81 at ha
  generalize a.tmps.getD 82 undef = x82 at ha
  clear hv hold hsz hdf z83
  subst ha
  simp only [Act.put, List.setIfInBounds_toArray, List.set_cons_succ, List.set_cons_zero]
  have k0 := (hb.cell (p := ⟨L, 0, none⟩) hz).trans q0.out
  have k1 := (hb.cell (p := ⟨L, 1, none⟩) hz).trans q1.out
  have k2 := (hb.cell (p := ⟨L, 2, none⟩) hz).trans q2.out
  have k3 := (hb.cell (p := ⟨L, 3, none⟩) hz).trans q3.out
  have k4 := (hb.cell (p := ⟨L, 4, none⟩) hz).trans q4.out
  have k5 := (hb.cell (p := ⟨L, 5, none⟩) hz).trans q5.out
  have k6 := (hb.cell (p := ⟨L, 6, none⟩) hz).trans q6.out
  have k7 := (hb.cell (p := ⟨L, 7, none⟩) hz).trans q7.out
  have hz := Nat.lt_of_lt_of_le hz hb.size
  have b2 := b2.trans (hb.mono (by have := HLL.out; omega))
  clear hb
  go_upto_region 6 with (fail)
  refine wp_region_seq [.val (.string (hasS 5)), .val (.bool false), .val (.bool false), .val (undef), .val (undef), .val (undef), .val (undef), .val (undef), .val (undef), .val (undef), .val (undef), .val (.bool false), .val (.bool false), .val (.pointer (some ⟨L, 3, none⟩)), .val (.int .i64 (E : Int)), .val (.bool false), .val (.bool false), .val (.bool false), .val (.pointer (some ⟨L, 3, none⟩)), .val (.int .i64 (E : Int)), .val (.bool false), .val (.bool false), .val (.bool false), .val (.string (hasS 5)), .val (.bool false), .val (.bool false), .val (undef), .val (undef), .val (undef), .val (undef), .val (undef), .val (undef), .val (undef), .val (undef), .val (.bool false), .val (.bool false), .val (.bool false), .val (.pointer (some ⟨L, 5, none⟩)), .val (.int .i64 0), .val (.bool false), .val (.bool false), .val (.bool false), .val (.pointer (some ⟨L, 5, none⟩)), .val (.int .i64 0), .val (.bool false), .val (.bool false), .val (.bool false), .val (.pointer (some ⟨L, 6, none⟩)), .val (.int .i64 0), .val (.bool false), .val (.bool false), .val (.bool false), .val (.pointer (some ⟨L, 6, none⟩)), .val (.int .i64 0), .val (.bool false), .val (.bool false), .val (.bool false), .val (.pointer (some ⟨L, 7, none⟩)), .val (.int .i64 0), .val (.bool false), .val (.bool false), .val (.bool false), .val (.pointer (some ⟨L, 7, none⟩)), .val (.int .i64 0), .val (.bool false), .val (.bool false)] (by kernel_rfl) (by kernel_rfl) (AllObl.all ⟨?_, ?_, ?_, ?_, ?_, ?_, ?_, ?_, ?_, ?_, ?_, ?_, ?_, ?_, ?_, ?_, ?_, ?_, ?_, ?_, ?_, ?_, ?_, ?_, ?_, ?_, ?_, ?_, ?_, ?_, ?_, ?_, ?_, ?_, ?_, ?_, ?_, ?_, ?_, ?_, ?_, ?_, ?_, ?_, ?_, ?_, ?_, ?_, ?_, ?_, ?_, ?_, ?_, ?_, ?_, ?_, ?_, ?_, ?_, ?_, ?_, ?_, ?_, ?_, ?_, ?_, trivial⟩) ?_
  · exact Obl.move trivial _ (Or.inl rfl) (by kernel_rfl)
  · exact Obl.call trivial 46 #[.tmp 84, .const (.int .u8 99)] _ rfl Try.f46 Try.func46 (by kernel_rfl) (by kernel_rfl) (fun ev w hb hx => by
      have e84 : ev (.tmp 84) = .string (hasS 5) := holds_val (hx (.tmp 84)) (by kernel_rfl)
      have k0 : ev (.const (.int .u8 99)) = (.int .u8 99) := holds_val (hx (.const (.int .u8 99))) (by kernel_rfl)
      simp only [List.map_toArray, List.map_cons, List.map_nil, e84, k0]
      exact (((ref8_in_c (hasS 5) w (hasS_size 5)).mono fun e w' h => still_ans ic h)).mono fun _ _ hh => Val.holds (by kernel_rfl) hh)
  · exact Obl.move trivial _ (Or.inl rfl) (by kernel_rfl)
  · exact Obl.skip 2 true (.bool false) rfl (by kernel_rfl) (by kernel_rfl) (by kernel_rfl) (by kernel_rfl) (fun w => holds_undef (by kernel_rfl))
  · exact Obl.skip 2 true (.bool false) rfl (by kernel_rfl) (by kernel_rfl) (by kernel_rfl) (by kernel_rfl) (fun w => holds_undef (by kernel_rfl))
  · exact Obl.skip 2 true (.bool false) rfl (by kernel_rfl) (by kernel_rfl) (by kernel_rfl) (by kernel_rfl) (fun w => holds_undef (by kernel_rfl))
  · exact Obl.skip 2 true (.bool false) rfl (by kernel_rfl) (by kernel_rfl) (by kernel_rfl) (by kernel_rfl) (fun w => holds_undef (by kernel_rfl))
  · exact Obl.skip 6 false (undef) rfl (by kernel_rfl) (by kernel_rfl) (by kernel_rfl) (by kernel_rfl) (fun w => holds_undef (by kernel_rfl))
  · exact Obl.skip 6 false (undef) rfl (by kernel_rfl) (by kernel_rfl) (by kernel_rfl) (by kernel_rfl) (fun w => holds_undef (by kernel_rfl))
  · exact Obl.skip 6 false (undef) rfl (by kernel_rfl) (by kernel_rfl) (by kernel_rfl) (by kernel_rfl) (fun w => holds_undef (by kernel_rfl))
  · exact Obl.skip 2 true (.bool false) rfl (by kernel_rfl) (by kernel_rfl) (by kernel_rfl) (by kernel_rfl) (fun w => holds_undef (by kernel_rfl))
  · exact Obl.pick trivial _ _ _ rfl false (by kernel_rfl) (by kernel_rfl)
  · exact Obl.move trivial _ (Or.inl rfl) (by kernel_rfl)
  · exact Obl.pure ⟨by kernel_rfl, by kernel_rfl, by kernel_rfl⟩ (.pointer (some ⟨L, 3, none⟩)) (by kernel_rfl) (fun ev w hb hx => by
      have e1 : ev (.tmp 1) = .pointer (some ⟨L, 0, none⟩) := holds_val (hx (.tmp 1)) (by kernel_rfl)
      simp [execOp, e1, go_sem])
  · exact Obl.pure ⟨by kernel_rfl, by kernel_rfl, by kernel_rfl⟩ (.int .i64 (E : Int)) (by kernel_rfl) (fun ev w hb hx => by
      have e97 : ev (.tmp 97) = .pointer (some ⟨L, 3, none⟩) := holds_val (hx (.tmp 97)) (by kernel_rfl)
      (have m3 := (hb.cell (p := ⟨L, 3, none⟩) hz).trans k3; simp [execOp, e97, go_sem, m3]))
  · exact Obl.bin ⟨by kernel_rfl, by kernel_rfl, by kernel_rfl⟩ .lss _ (.tmp 98) (.const (.int .i64 0)) _ rfl (.int .i64 (E : Int)) (.int .i64 0) (.bool false) (by kernel_rfl) (by kernel_rfl) (fun w => by simp [eqGuard, go_sem]; try omega) (by kernel_rfl)
  · exact Obl.pick trivial _ _ _ rfl false (by kernel_rfl) (by kernel_rfl)
  · exact Obl.move trivial _ (Or.inl rfl) (by kernel_rfl)
  · exact Obl.pure ⟨by kernel_rfl, by kernel_rfl, by kernel_rfl⟩ (.pointer (some ⟨L, 3, none⟩)) (by kernel_rfl) (fun ev w hb hx => by
      have e1 : ev (.tmp 1) = .pointer (some ⟨L, 0, none⟩) := holds_val (hx (.tmp 1)) (by kernel_rfl)
      simp [execOp, e1, go_sem])
  · exact Obl.pure ⟨by kernel_rfl, by kernel_rfl, by kernel_rfl⟩ (.int .i64 (E : Int)) (by kernel_rfl) (fun ev w hb hx => by
      have e102 : ev (.tmp 102) = .pointer (some ⟨L, 3, none⟩) := holds_val (hx (.tmp 102)) (by kernel_rfl)
      (have m3 := (hb.cell (p := ⟨L, 3, none⟩) hz).trans k3; simp [execOp, e102, go_sem, m3]))
  · exact Obl.bin ⟨by kernel_rfl, by kernel_rfl, by kernel_rfl⟩ .geq _ (.tmp 103) (.const (.int .i64 6)) _ rfl (.int .i64 (E : Int)) (.int .i64 6) (.bool false) (by kernel_rfl) (by kernel_rfl) (fun w => by simp [eqGuard, go_sem]; try omega) (by kernel_rfl)
  · exact Obl.pick trivial _ _ _ rfl false (by kernel_rfl) (by kernel_rfl)
  · exact Obl.move trivial _ (Or.inl rfl) (by kernel_rfl)
  · exact Obl.move ⟨by kernel_rfl, by kernel_rfl, by kernel_rfl⟩ _ (Or.inl rfl) (by kernel_rfl)
  · exact Obl.call ⟨by kernel_rfl, by kernel_rfl, by kernel_rfl⟩ 46 #[.tmp 107, .const (.int .u8 104)] _ rfl Try.f46 Try.func46 (by kernel_rfl) (by kernel_rfl) (fun ev w hb hx => by
      have e107 : ev (.tmp 107) = .string (hasS 5) := holds_val (hx (.tmp 107)) (by kernel_rfl)
      have k0 : ev (.const (.int .u8 104)) = (.int .u8 104) := holds_val (hx (.const (.int .u8 104))) (by kernel_rfl)
      simp only [List.map_toArray, List.map_cons, List.map_nil, e107, k0]
      exact (((ref8_in_h (hasS 5) w (hasS_size 5)).mono fun e w' h => still_ans ih h)).mono fun _ _ hh => Val.holds (by kernel_rfl) hh)
  · exact Obl.move ⟨by kernel_rfl, by kernel_rfl, by kernel_rfl⟩ _ (Or.inl rfl) (by kernel_rfl)
  · exact Obl.skip 25 true (.bool false) rfl (by kernel_rfl) (by kernel_rfl) (by kernel_rfl) (by kernel_rfl) (fun w => holds_undef (by kernel_rfl))
  · exact Obl.skip 25 true (.bool false) rfl (by kernel_rfl) (by kernel_rfl) (by kernel_rfl) (by kernel_rfl) (fun w => holds_undef (by kernel_rfl))
  · exact Obl.skip 25 true (.bool false) rfl (by kernel_rfl) (by kernel_rfl) (by kernel_rfl) (by kernel_rfl) (fun w => holds_undef (by kernel_rfl))
  · exact Obl.skip 25 true (.bool false) rfl (by kernel_rfl) (by kernel_rfl) (by kernel_rfl) (by kernel_rfl) (fun w => holds_undef (by kernel_rfl))
  · exact Obl.skip 29 false (undef) rfl (by kernel_rfl) (by kernel_rfl) (by kernel_rfl) (by kernel_rfl) (fun w => holds_undef (by kernel_rfl))
  · exact Obl.skip 29 false (undef) rfl (by kernel_rfl) (by kernel_rfl) (by kernel_rfl) (by kernel_rfl) (fun w => holds_undef (by kernel_rfl))
  · exact Obl.skip 29 false (undef) rfl (by kernel_rfl) (by kernel_rfl) (by kernel_rfl) (by kernel_rfl) (fun w => holds_undef (by kernel_rfl))
  · exact Obl.skip 25 true (.bool false) rfl (by kernel_rfl) (by kernel_rfl) (by kernel_rfl) (by kernel_rfl) (fun w => holds_undef (by kernel_rfl))
  · exact Obl.pick ⟨by kernel_rfl, by kernel_rfl, by kernel_rfl⟩ _ _ _ rfl false (by kernel_rfl) (by kernel_rfl)
  · exact Obl.pick trivial _ _ _ rfl false (by kernel_rfl) (by kernel_rfl)
  · exact Obl.move trivial _ (Or.inl rfl) (by kernel_rfl)
  · exact Obl.pure ⟨by kernel_rfl, by kernel_rfl, by kernel_rfl⟩ (.pointer (some ⟨L, 5, none⟩)) (by kernel_rfl) (fun ev w hb hx => by
      have e1 : ev (.tmp 1) = .pointer (some ⟨L, 0, none⟩) := holds_val (hx (.tmp 1)) (by kernel_rfl)
      simp [execOp, e1, go_sem])
  · exact Obl.pure ⟨by kernel_rfl, by kernel_rfl, by kernel_rfl⟩ (.int .i64 0) (by kernel_rfl) (fun ev w hb hx => by
      have e121 : ev (.tmp 121) = .pointer (some ⟨L, 5, none⟩) := holds_val (hx (.tmp 121)) (by kernel_rfl)
      (have m5 := (hb.cell (p := ⟨L, 5, none⟩) hz).trans k5; simp [execOp, e121, go_sem, m5]))
  · exact Obl.bin ⟨by kernel_rfl, by kernel_rfl, by kernel_rfl⟩ .lss _ (.tmp 122) (.const (.int .i64 0)) _ rfl (.int .i64 0) (.int .i64 0) (.bool false) (by kernel_rfl) (by kernel_rfl) (fun w => by simp [eqGuard, go_sem]; try omega) (by kernel_rfl)
  · exact Obl.pick trivial _ _ _ rfl false (by kernel_rfl) (by kernel_rfl)
  · exact Obl.move trivial _ (Or.inl rfl) (by kernel_rfl)
  · exact Obl.pure ⟨by kernel_rfl, by kernel_rfl, by kernel_rfl⟩ (.pointer (some ⟨L, 5, none⟩)) (by kernel_rfl) (fun ev w hb hx => by
      have e1 : ev (.tmp 1) = .pointer (some ⟨L, 0, none⟩) := holds_val (hx (.tmp 1)) (by kernel_rfl)
      simp [execOp, e1, go_sem])
  · exact Obl.pure ⟨by kernel_rfl, by kernel_rfl, by kernel_rfl⟩ (.int .i64 0) (by kernel_rfl) (fun ev w hb hx => by
      have e126 : ev (.tmp 126) = .pointer (some ⟨L, 5, none⟩) := holds_val (hx (.tmp 126)) (by kernel_rfl)
      (have m5 := (hb.cell (p := ⟨L, 5, none⟩) hz).trans k5; simp [execOp, e126, go_sem, m5]))
  · exact Obl.bin ⟨by kernel_rfl, by kernel_rfl, by kernel_rfl⟩ .gtr _ (.tmp 127) (.const (.int .i64 3)) _ rfl (.int .i64 0) (.int .i64 3) (.bool false) (by kernel_rfl) (by kernel_rfl) (fun w => by simp [eqGuard, go_sem]; try omega) (by kernel_rfl)
  · exact Obl.pick trivial _ _ _ rfl false (by kernel_rfl) (by kernel_rfl)
  · exact Obl.move trivial _ (Or.inl rfl) (by kernel_rfl)
  · exact Obl.pure ⟨by kernel_rfl, by kernel_rfl, by kernel_rfl⟩ (.pointer (some ⟨L, 6, none⟩)) (by kernel_rfl) (fun ev w hb hx => by
      have e1 : ev (.tmp 1) = .pointer (some ⟨L, 0, none⟩) := holds_val (hx (.tmp 1)) (by kernel_rfl)
      simp [execOp, e1, go_sem])
  · exact Obl.pure ⟨by kernel_rfl, by kernel_rfl, by kernel_rfl⟩ (.int .i64 0) (by kernel_rfl) (fun ev w hb hx => by
      have e131 : ev (.tmp 131) = .pointer (some ⟨L, 6, none⟩) := holds_val (hx (.tmp 131)) (by kernel_rfl)
      (have m6 := (hb.cell (p := ⟨L, 6, none⟩) hz).trans k6; simp [execOp, e131, go_sem, m6]))
  · exact Obl.bin ⟨by kernel_rfl, by kernel_rfl, by kernel_rfl⟩ .lss _ (.tmp 132) (.const (.int .i64 0)) _ rfl (.int .i64 0) (.int .i64 0) (.bool false) (by kernel_rfl) (by kernel_rfl) (fun w => by simp [eqGuard, go_sem]; try omega) (by kernel_rfl)
  · exact Obl.pick trivial _ _ _ rfl false (by kernel_rfl) (by kernel_rfl)
  · exact Obl.move trivial _ (Or.inl rfl) (by kernel_rfl)
  · exact Obl.pure ⟨by kernel_rfl, by kernel_rfl, by kernel_rfl⟩ (.pointer (some ⟨L, 6, none⟩)) (by kernel_rfl) (fun ev w hb hx => by
      have e1 : ev (.tmp 1) = .pointer (some ⟨L, 0, none⟩) := holds_val (hx (.tmp 1)) (by kernel_rfl)
      simp [execOp, e1, go_sem])
  · exact Obl.pure ⟨by kernel_rfl, by kernel_rfl, by kernel_rfl⟩ (.int .i64 0) (by kernel_rfl) (fun ev w hb hx => by
      have e136 : ev (.tmp 136) = .pointer (some ⟨L, 6, none⟩) := holds_val (hx (.tmp 136)) (by kernel_rfl)
      (have m6 := (hb.cell (p := ⟨L, 6, none⟩) hz).trans k6; simp [execOp, e136, go_sem, m6]))
  · exact Obl.bin ⟨by kernel_rfl, by kernel_rfl, by kernel_rfl⟩ .geq _ (.tmp 137) (.const (.int .i64 3)) _ rfl (.int .i64 0) (.int .i64 3) (.bool false) (by kernel_rfl) (by kernel_rfl) (fun w => by simp [eqGuard, go_sem]; try omega) (by kernel_rfl)
  · exact Obl.pick trivial _ _ _ rfl false (by kernel_rfl) (by kernel_rfl)
  · exact Obl.move trivial _ (Or.inl rfl) (by kernel_rfl)
  · exact Obl.pure ⟨by kernel_rfl, by kernel_rfl, by kernel_rfl⟩ (.pointer (some ⟨L, 7, none⟩)) (by kernel_rfl) (fun ev w hb hx => by
      have e1 : ev (.tmp 1) = .pointer (some ⟨L, 0, none⟩) := holds_val (hx (.tmp 1)) (by kernel_rfl)
      simp [execOp, e1, go_sem])
  · exact Obl.pure ⟨by kernel_rfl, by kernel_rfl, by kernel_rfl⟩ (.int .i64 0) (by kernel_rfl) (fun ev w hb hx => by
      have e141 : ev (.tmp 141) = .pointer (some ⟨L, 7, none⟩) := holds_val (hx (.tmp 141)) (by kernel_rfl)
      (have m7 := (hb.cell (p := ⟨L, 7, none⟩) hz).trans k7; simp [execOp, e141, go_sem, m7]))
  · exact Obl.bin ⟨by kernel_rfl, by kernel_rfl, by kernel_rfl⟩ .lss _ (.tmp 142) (.const (.int .i64 0)) _ rfl (.int .i64 0) (.int .i64 0) (.bool false) (by kernel_rfl) (by kernel_rfl) (fun w => by simp [eqGuard, go_sem]; try omega) (by kernel_rfl)
  · exact Obl.pick trivial _ _ _ rfl false (by kernel_rfl) (by kernel_rfl)
  · exact Obl.move trivial _ (Or.inl rfl) (by kernel_rfl)
  · exact Obl.pure ⟨by kernel_rfl, by kernel_rfl, by kernel_rfl⟩ (.pointer (some ⟨L, 7, none⟩)) (by kernel_rfl) (fun ev w hb hx => by
      have e1 : ev (.tmp 1) = .pointer (some ⟨L, 0, none⟩) := holds_val (hx (.tmp 1)) (by kernel_rfl)
      simp [execOp, e1, go_sem])
  · exact Obl.pure ⟨by kernel_rfl, by kernel_rfl, by kernel_rfl⟩ (.int .i64 0) (by kernel_rfl) (fun ev w hb hx => by
      have e146 : ev (.tmp 146) = .pointer (some ⟨L, 7, none⟩) := holds_val (hx (.tmp 146)) (by kernel_rfl)
      (have m7 := (hb.cell (p := ⟨L, 7, none⟩) hz).trans k7; simp [execOp, e146, go_sem, m7]))
  · exact Obl.bin ⟨by kernel_rfl, by kernel_rfl, by kernel_rfl⟩ .gtr _ (.tmp 147) (.const (.int .i64 255)) _ rfl (.int .i64 0) (.int .i64 255) (.bool false) (by kernel_rfl) (by kernel_rfl) (fun w => by simp [eqGuard, go_sem]; try omega) (by kernel_rfl)
  · exact Obl.pick trivial _ _ _ rfl false (by kernel_rfl) (by kernel_rfl)
  intro a WR hb hsz hdf hold hv
  have ha := act_puts [84, 85, 86, 87, 88, 89, 90, 91, 92, 93, 94, 95, 96, 97, 98, 99, 100, 101, 102, 103, 104, 105, 106, 107, 108, 109, 110, 111, 112, 113, 114, 115, 116, 117, 118, 119, 120, 121, 122, 123, 124, 125, 126, 127, 128, 129, 130, 131, 132, 133, 134, 135, 136, 137, 138, 139, 140, 141, 142, 143, 144, 145, 146, 147, 148, 149] (by kernel_rfl) hsz hdf hold
  simp only [putAll] at ha
  have z149 : a.tmps.getD 149 undef = .bool false := holds_val (hv 65 149 (by kernel_rfl)) (by kernel_rfl)
  rw [z149] at ha
  generalize a.tmps.getD 84 undef = x84 at ha
  generalize a.tmps.getD 85 undef = x85 at ha
  generalize a.tmps.getD 86 undef = x86 at ha
  generalize a.tmps.getD 87 undef = x87 at ha
  generalize a.tmps.getD 88 undef = x88 at ha
  generalize a.tmps.getD 89 undef = x89 at ha
  generalize a.tmps.getD 90 undef = x90 at ha
  generalize a.tmps.getD 91 undef = x91 at ha
  generalize a.tmps.getD 92 undef = x92 at ha
  generalize a.tmps.getD 93 undef = x93 at ha
  generalize a.tmps.getD 94 undef = x94 at ha
  generalize a.tmps.getD 95 undef = x95 at ha
  generalize a.tmps.getD 96 undef = x96 at ha
  generalize a.tmps.getD 97 undef = x97 at ha
  generalize a.tmps.getD 98 undef = x98 at ha
  generalize a.tmps.getD 99 undef = x99 at ha
  generalize a.tmps.getD 100 undef = x100 at ha
  generalize a.tmps.getD 101 undef = x101 at ha
  generalize a.tmps.getD 102 undef = x102 at ha
  generalize a.tmps.getD 103 undef = x103 at ha
  generalize a.tmps.getD 104 undef = x104 at ha
  generalize a.tmps.getD 105 undef = x105 at ha
  generalize a.tmps.getD 106 undef = x106 at ha
  generalize a.tmps.getD 107 undef = x107 at ha
  generalize a.tmps.getD 108 undef = x108 at ha
  generalize a.tmps.getD 109 undef = x109 at ha
  generalize a.tmps.getD 110 undef = x110 at ha
  generalize a.tmps.getD 111 undef = x111 at ha
  generalize a.tmps.getD 112 undef = x112 at ha
  generalize a.tmps.getD 113 undef = x113 at ha
  generalize a.tmps.getD 114 undef = x114 at ha
  generalize a.tmps.getD 115 undef = x115 at ha
  generalize a.tmps.getD 116 undef = x116 at ha
  generalize a.tmps.getD 117 undef = x117 at ha
  generalize a.tmps.getD 118 undef = x118 at ha
  generalize a.tmps.getD 119 undef = x119 at ha
  generalize a.tmps.getD 120 undef = x120 at ha
  generalize a.tmps.getD 121 undef = x121 at ha
  generalize a.tmps.getD 122 undef = x122 at ha
  generalize a.tmps.getD 123 undef = x123 at ha
  generalize a.tmps.getD 124 undef = x124 at ha
  generalize a.tmps.getD 125 undef = x125 at ha
  generalize a.tmps.getD 126 undef = x126 at ha
  generalize a.tmps.getD 127 undef = x127 at ha
  generalize a.tmps.getD 128 undef = x128 at ha
  generalize a.tmps.getD 129 undef = x129 at ha
  generalize a.tmps.getD 130 undef = x130 at ha
  generalize a.tmps.getD 131 undef = x131 at ha
  generalize a.tmps.getD 132 undef = x132 at ha
  generalize a.tmps.getD 133 undef = x133 at ha
  generalize a.tmps.getD 134 undef = x134 at ha
  generalize a.tmps.getD 135 undef = x135 at ha
  generalize a.tmps.getD 136 undef = x136 at ha
  generalize a.tmps.getD 137 undef = x137 at ha
  generalize a.tmps.getD 138 undef = x138 at ha
  generalize a.tmps.getD 139 undef = x139 at ha
  generalize a.tmps.getD 140 undef = x140 at ha
  generalize a.tmps.getD 141 undef = x141 at ha
  generalize a.tmps.getD 142 undef = x142 at ha
  generalize a.tmps.getD 143 undef = x143 at ha
  generalize a.tmps.getD 144 undef = x144 at ha
  generalize a.tmps.getD 145 undef = x145 at ha
  generalize a.tmps.getD 146 undef = x146 at ha
  generalize a.tmps.getD 147 undef = x147 at ha
  generalize a.tmps.getD 148 undef = x148 at ha
  clear hv hold hsz hdf z149
  subst ha
  simp only [Act.put, List.setIfInBounds_toArray, List.set_cons_succ, List.set_cons_zero]
  have b2 := b2.trans (hb.mono (by have := HLL.out; omega))
  clear hb k0 k1 k2 k3 k4 k5 k6 k7
  go_wp2_with fail
  refine (ref8_in_l (hasS 5) _ (hasS_size 5)).mono ?_
  rintro e w' ⟨rfl, rfl⟩
  go_wp2_with fail
  go_ret
  exact ⟨rfl, HLL.out ▸ b2⟩
end Go.Proofs.Ytgjncaobcgjefaa.RP
