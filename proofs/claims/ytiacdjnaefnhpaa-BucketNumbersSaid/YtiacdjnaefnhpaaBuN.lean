/- BucketNumbers' walk. -/
import Derived.Test.YtiacdjnaefnhpaaBuY
namespace Go.Proofs.Ytiacdjnaefnhpaa
open Go.RowKit
set_option linter.unusedVariables false
set_option linter.unusedSimpArgs false
set_option maxRecDepth 20000

theorem six_at (j : Nat) (hj : j < 6) : ∃ x : Int, I64 x ∧ (#[Value.int .i64 (-9223372036854775808), .int .i64 (-1), .int .i64 0, .int .i64 1099511627776, .int .i64 1099511627777, .int .i64 9223372036854775807] : Array Value)[j]? = some (.int .i64 x) := by
  have h : j = 0 ∨ j = 1 ∨ j = 2 ∨ j = 3 ∨ j = 4 ∨ j = 5 := by omega
  rcases h with rfl | rfl | rfl | rfl | rfl | rfl <;> exact ⟨_, by unfold I64; omega, rfl⟩
theorem w64_in (m : Int) : I64 (wrap64 m) := by unfold wrap64 I64; omega
set_option maxHeartbeats 4000000 in
theorem bucketNumbers_walk (w : World) : Calls Try.prog 3 #[] w (Yes w) := by
  go_enter Try.func3, Try.ntmps3
  go_wp2_with fail
  go_loopw [1, 2, 3] (fun i _ _ wr => ∃ k : Nat, k ≤ 40 ∧ i = .int .i64 (k : Int) ∧ Below w.heap.size w wr) (fun i _ _ _ => 40 - (intOf i).toNat)
  case atStart => exact ⟨0, by omega, rfl, Below.refl _ _⟩
  case round =>
    obtain ⟨k, hk, rfl, b0⟩ := hrel
    by_cases hlt : k < 40
    · have g1 : (k : Int) < 40 := by omega
      go_wp2_with fail
      go_loopw [2, 3] (fun v i wr => ∃ (q : Nat) (S : List Ask) (vv : Value), v = vv ∧ q ≤ 70 ∧ i = .int .i64 (q : Int) ∧ Hid (OwnA wr w.heap.size vv S ∧ (∀ x ∈ S, x.In) ∧ S.length = q ∧ Below w.heap.size w wr)) (fun _ i _ => 70 - (intOf i).toNat)
      case atStart => exact ⟨0, [], _, rfl, by omega, rfl, Lib.hid ⟨OwnA.nil _ _, by simp, rfl, b0⟩⟩
      case round =>
        obtain ⟨q, S, vv, rfl, hq, rfl, HS⟩ := hrel
        clear b0
        obtain ⟨hown, hSi, hSl, hbw⟩ := HS.out
        obtain ⟨AS, cS, hv, hra, _⟩ := hown.ra hSi
        rw [hSl] at hv hra
        subst hv
        have hbs := hbw.size
        have HSI := Lib.hid (⟨hSi, hSl⟩ : _ ∧ _)
        have HL := Lib.hid (show S.length + 1 ≤ 8796093022208 by omega)
        by_cases hl2 : q < 70
        · have g2 : (q : Int) < 70 := by omega
          have hK := Int.lt_tmod_of_pos (wrap64 (wrap64 ((q : Int) * (q : Int)) + (k : Int))) (show (0 : Int) < 6 by omega)
          have hK2 := Int.tmod_lt_of_pos (wrap64 (wrap64 ((q : Int) * (q : Int)) + (k : Int))) (show (0 : Int) < 6 by omega)
          have hin : (⟨(wrap64 (wrap64 ((q : Int) * (q : Int)) + (k : Int))).tmod 6, wrap64 ((wrap64 ((q : Int) * (k : Int))).tmod 97 * (1 + (k : Int) % 3 * 500))⟩ : Ask).In := ⟨by show I64 ((wrap64 (wrap64 ((q : Int) * (q : Int)) + (k : Int))).tmod 6); generalize (wrap64 (wrap64 ((q : Int) * (q : Int)) + (k : Int))).tmod 6 = z at hK hK2; unfold I64; omega, w64_in _⟩
          have HIN := Lib.hid hin
          clear hK hK2 hin
          have oA := hown.on (belowA wr (.cells #[.int .i64 ((wrap64 (wrap64 ((q : Int) * (q : Int)) + (k : Int))).tmod 6), .int .i64 (wrap64 ((wrap64 ((q : Int) * (k : Int))).tmod 97 * (1 + (k : Int) % 3 * 500)))] 24))
          have rA := one_ra wr ⟨(wrap64 (wrap64 ((q : Int) * (q : Int)) + (k : Int))).tmod 6, wrap64 ((wrap64 ((q : Int) * (k : Int))).tmod 97 * (1 + (k : Int) % 3 * 500))⟩ HIN.out
          have bA9 := hbw.trans ((belowA wr (.cells #[.int .i64 ((wrap64 (wrap64 ((q : Int) * (q : Int)) + (k : Int))).tmod 6), .int .i64 (wrap64 ((wrap64 ((q : Int) * (k : Int))).tmod 97 * (1 + (k : Int) % 3 * 500)))] 24)).mono hbs)
          have sA := bA9.size
          clear hown hbw hbs hSi hSl hra HS
          go_wp2_with (at_builtin; go_loud (with_reducible refine wpList_appendA rfl (.tmp 14) (.tmp 31) rfl rfl w.heap.size (.slice AS q cS) S (by with_unfolding_all rfl) oA _ _ 1 1 [⟨(wrap64 (wrap64 ((q : Int) * (q : Int)) + (k : Int))).tmod 6, wrap64 ((wrap64 ((q : Int) * (k : Int))).tmod 97 * (1 + (k : Int) % 3 * 500))⟩] (by with_unfolding_all rfl) rA HL.out sA ?_); intro v9 w9 ha9)
          have b9 := below_grown bA9 sA ha9.2 (fun kk hkk => (World.ownsRow.lt oA kk hkk).1)
          have o9 := ha9.1
          have HR := Lib.hid (show OwnA w9 w.heap.size v9 (S ++ [⟨(wrap64 (wrap64 ((q : Int) * (q : Int)) + (k : Int))).tmod 6, wrap64 ((wrap64 ((q : Int) * (k : Int))).tmod 97 * (1 + (k : Int) % 3 * 500))⟩]) ∧ (∀ x ∈ S ++ [⟨(wrap64 (wrap64 ((q : Int) * (q : Int)) + (k : Int))).tmod 6, wrap64 ((wrap64 ((q : Int) * (k : Int))).tmod 97 * (1 + (k : Int) % 3 * 500))⟩], x.In) ∧ (S ++ [(⟨(wrap64 (wrap64 ((q : Int) * (q : Int)) + (k : Int))).tmod 6, wrap64 ((wrap64 ((q : Int) * (k : Int))).tmod 97 * (1 + (k : Int) % 3 * 500))⟩ : Ask)]).length = q + 1 ∧ Below w.heap.size w w9 from ⟨o9, fun x hx => by
            rcases List.mem_append.1 hx with h1 | h1
            · exact HSI.out.1 x h1
            · rw [List.mem_singleton] at h1
              subst h1
              exact HIN.out, by rw [List.length_append, HSI.out.2]; rfl, b9⟩)
          clear ha9 oA rA bA9 o9 b9 sA
          go_roundw
          case rel => exact ⟨q + 1, _, _, rfl, by omega, by go_num, HR⟩
          case measure => simp [intOf]; omega
        · have g2 : ¬ (q : Int) < 70 := by omega
          have HR := Lib.hid hra
          have i1 := w64_in
          clear hown hSi hSl hra HS hbs HSI HL i1
          go_wp2_with fail
          ((with_reducible refine (play_any _ _ AS q cS S _ (by first | exact w64_in _ | (unfold I64; omega)) (by first | exact w64_in _ | (unfold I64; omega)) HR.out (by omega)).mono ?_); rintro e w1 ⟨rfl, d1⟩)
          have b1 := hbw.trans (d1.mono hbw.size)
          have r1 := HR.out.on d1
          clear hbw d1
          go_wp2_with fail
          ((with_reducible refine (play_any _ _ AS q cS S _ (by first | exact w64_in _ | (unfold I64; omega)) (by first | exact w64_in _ | (unfold I64; omega)) r1 (by omega)).mono ?_); rintro e w2 ⟨rfl, d2⟩)
          have b2 := b1.trans (d2.mono b1.size)
          have r2 := r1.on d2
          clear b1 r1 d2
          go_wp2_with fail
          ((with_reducible refine (play_any _ _ AS q cS S _ (by first | exact w64_in _ | (unfold I64; omega)) (by first | exact w64_in _ | (unfold I64; omega)) r2 (by omega)).mono ?_); rintro e w3 ⟨rfl, d3⟩)
          have b3 := b2.trans (d3.mono b2.size)
          clear b2 r2 d3
          go_wp2_with fail
          go_roundw
          case rel => exact ⟨k + 1, by omega, by go_num, b3⟩
          case measure => simp [intOf]; omega
    · have g1 : ¬ (k : Int) < 40 := by omega
      clear hlt
      go_wp2_with fail
      have hblk : Blk (wr.alloc (.cells #[Value.int .i64 (-9223372036854775808), .int .i64 (-1), .int .i64 0, .int .i64 1099511627776, .int .i64 1099511627777, .int .i64 9223372036854775807] 2)) wr.heap.size 2 #[Value.int .i64 (-9223372036854775808), .int .i64 (-1), .int .i64 0, .int .i64 1099511627776, .int .i64 1099511627777, .int .i64 9223372036854775807] := Blk.new _ _ _
      have bb := b0.alloc b0.size (.cells #[Value.int .i64 (-9223372036854775808), .int .i64 (-1), .int .i64 0, .int .i64 1099511627776, .int .i64 1099511627777, .int .i64 9223372036854775807] 2)
      generalize wr.alloc (.cells #[Value.int .i64 (-9223372036854775808), .int .i64 (-1), .int .i64 0, .int .i64 1099511627776, .int .i64 1099511627777, .int .i64 9223372036854775807] 2) = V at hblk bb ⊢
      generalize hLB : wr.heap.size = LB at hblk ⊢
      have hLV := hblk.lt
      have HC := Lib.hid (fun (j : Nat) (hj : j < 6) (W' : World) (hW : Below V.heap.size V W') => (by
        obtain ⟨x, h1, h2⟩ := six_at j hj
        exact ⟨x, h1, by rw [(hblk.below hW hLV).cell j]; exact h2⟩ : ∃ x : Int, I64 x ∧ W'.cell? ⟨LB, j, none⟩ = some (.int .i64 x)))
      clear hblk hLV b0 hLB
      go_loopw [5, 57] (fun _ i wr => ∃ j : Nat, j ≤ 6 ∧ i = .int .i64 (j : Int) ∧ Below V.heap.size V wr) (fun _ i _ => 6 - (intOf i).toNat)
      case atStart => exact ⟨0, by omega, rfl, Below.refl _ _⟩
      case round =>
        obtain ⟨j, hj, rfl, b0⟩ := hrel
        by_cases hjl : j < 6
        · have g3 : (j : Int) < 6 := by omega
          obtain ⟨x, hx, x0⟩ := HC.out j hjl _ b0
          clear hjl
          have hfive := five_ra wr ⟨2, x⟩ ⟨0, x⟩ ⟨5, x⟩ ⟨0, 1⟩ ⟨3, 1⟩ (by
            intro y hy
            have hc : ∀ z : Int, 0 ≤ z → z ≤ 5 → I64 z := fun z h1 h2 => by unfold I64; omega
            simp only [List.mem_cons, List.not_mem_nil, or_false] at hy
            rcases hy with rfl | rfl | rfl | rfl | rfl
            · exact ⟨hc 2 (by omega) (by omega), hx⟩
            · exact ⟨hc 0 (by omega) (by omega), hx⟩
            · exact ⟨hc 5 (by omega) (by omega), hx⟩
            · exact ⟨hc 0 (by omega) (by omega), hc 1 (by omega) (by omega)⟩
            · exact ⟨hc 3 (by omega) (by omega), hc 1 (by omega) (by omega)⟩)
          have hb5 := b0.alloc b0.size (.cells #[.int .i64 2, .int .i64 x, .int .i64 0, .int .i64 x, .int .i64 5, .int .i64 x, .int .i64 0, .int .i64 1, .int .i64 3, .int .i64 1] 24)
          have H5 := Lib.hid (⟨hfive.more (by simp), hb5⟩ : RA _ (wr.alloc (.cells #[.int .i64 2, .int .i64 x, .int .i64 0, .int .i64 x, .int .i64 5, .int .i64 x, .int .i64 0, .int .i64 1, .int .i64 3, .int .i64 1] 24)).heap.size _ _ _ _ ∧ _)
          clear hfive hb5 b0
          go_wp2_with fail
          ((with_reducible refine (play_any x x _ 5 5 _ _ hx hx H5.out.1 (by omega)).mono ?_); rintro e w4 ⟨rfl, d4⟩)
          have b4 := H5.out.2.trans (d4.mono H5.out.2.size)
          clear d4 H5 x0
          go_wp2_with fail
          go_roundw
          case rel => exact ⟨j + 1, by omega, by go_num, b4⟩
          case measure => simp [intOf]; omega
        · have g3 : ¬ (j : Int) < 6 := by omega
          clear hjl
          go_wp2_with fail
          ((with_reducible refine (known10_any _).mono ?_); rintro e w4 ⟨rfl, d4⟩)
          have b4 := (bb.trans (b0.mono bb.size))
          have b5 := b4.trans (d4.mono b4.size)
          clear d4 b4
          go_wp2_with fail
          go_ret
          exact ⟨rfl, b5⟩
end Go.Proofs.Ytiacdjnaefnhpaa
