/- AlarmNumbers' walk. -/
import Derived.Test.YtkhhaokelhmikaaAlY
namespace Go.Proofs.Ytkhhaokelhmikaa
open Go.RowKit
set_option linter.unusedVariables false
set_option linter.unusedSimpArgs false
set_option maxRecDepth 20000

/-- A literal of three. -/
theorem three_ra (w : World) (x0 x1 x2 : Ask) (hi : ∀ x ∈ [x0, x1, x2], x.In) : RA (w.alloc (.cells #[.int .i64 x0.kind, .int .u64 (x0.key : Int), .int .i64 x0.n, .int .i64 x1.kind, .int .u64 (x1.key : Int), .int .i64 x1.n, .int .i64 x2.kind, .int .u64 (x2.key : Int), .int .i64 x2.n] 25)) (w.heap.size + 1) (some ⟨w.heap.size, 0, none⟩) 3 3 [x0, x1, x2] := by
  refine ⟨rfl, hi, ⟨rfl, Nat.le_refl _, fun _ => ⟨w.heap.size, 0, rfl, by omega, fun j v hj => ?_⟩⟩⟩
  have h : Blk (w.alloc (.cells #[.int .i64 x0.kind, .int .u64 (x0.key : Int), .int .i64 x0.n, .int .i64 x1.kind, .int .u64 (x1.key : Int), .int .i64 x1.n, .int .i64 x2.kind, .int .u64 (x2.key : Int), .int .i64 x2.n] 25)) w.heap.size 25 #[.int .i64 x0.kind, .int .u64 (x0.key : Int), .int .i64 x0.n, .int .i64 x1.kind, .int .u64 (x1.key : Int), .int .i64 x1.n, .int .i64 x2.kind, .int .u64 (x2.key : Int), .int .i64 x2.n] := Blk.new _ _ _
  rw [Nat.zero_add, h.cell j, ← hj]
  simp [cellsA, Ask.cells]
theorem u64_ex (m : Int) : ∃ k : Nat, IntKind.u64.wrap m = (k : Int) ∧ k < 18446744073709551616 := ⟨(IntKind.u64.wrap m).toNat, by rw [IntKind.wrap_u64]; omega, by rw [IntKind.wrap_u64]; omega⟩
theorem w64_in (m : Int) : I64 (wrap64 m) := by unfold wrap64 I64; omega
theorem lit12_play (w : World) : Calls Try.prog 7 #[.slice (some ⟨w.heap.size, 0, none⟩) 3 3] (w.alloc (.cells #[.int .i64 0, .int .u64 0, .int .i64 (-9223372036854775808), .int .i64 0, .int .u64 18446744073709551615, .int .i64 9223372036854775807, .int .i64 4, .int .u64 0, .int .i64 9223372036854775807] 25)) (fun e w' => e = .returned (.bool true) ∧ Below w.heap.size w w') := by
  have r3 := three_ra w ⟨0, 0, -9223372036854775808⟩ ⟨0, 18446744073709551615, 9223372036854775807⟩ ⟨4, 0, 9223372036854775807⟩ (fun x hx => by
    simp only [List.mem_cons, List.not_mem_nil, or_false] at hx
    rcases hx with rfl | rfl | rfl <;> exact ⟨⟨by decide, by decide⟩, by decide, ⟨by decide, by decide⟩⟩)
  have r3 : RA (w.alloc (.cells #[.int .i64 0, .int .u64 0, .int .i64 (-9223372036854775808), .int .i64 0, .int .u64 18446744073709551615, .int .i64 9223372036854775807, .int .i64 4, .int .u64 0, .int .i64 9223372036854775807] 25)) (w.heap.size + 1) (some ⟨w.heap.size, 0, none⟩) 3 3 [⟨0, 0, -9223372036854775808⟩, ⟨0, 18446744073709551615, 9223372036854775807⟩, ⟨4, 0, 9223372036854775807⟩] := r3
  have b := belowA w (.cells #[.int .i64 0, .int .u64 0, .int .i64 (-9223372036854775808), .int .i64 0, .int .u64 18446744073709551615, .int .i64 9223372036854775807, .int .i64 4, .int .u64 0, .int .i64 9223372036854775807] 25)
  exact (play_any _ 3 3 _ _ (r3.more (by simp)) (by omega)).mono fun e w' h => ⟨h.1, b.trans (h.2.mono b.size)⟩
set_option maxHeartbeats 4000000 in
theorem alarmNumbers_walk (w : World) : Calls Try.prog 3 #[] w (Yes w) := by
  go_enter Try.func3, Try.ntmps3
  go_wp2_with fail
  go_loopw [1, 2, 3] (fun i _ _ wr => ∃ k : Nat, k ≤ 40 ∧ i = .int .i64 (k : Int) ∧ Below w.heap.size w wr) (fun i _ _ _ => 40 - (intOf i).toNat)
  case atStart => exact ⟨0, by omega, rfl, Below.refl _ _⟩
  case round =>
    obtain ⟨k, hk, rfl, b0⟩ := hrel
    by_cases hlt : k < 40
    · have g1 : (k : Int) < 40 := by omega
      go_wp2_with fail
      go_loopw [2, 3] (fun v i wr => ∃ (q : Nat) (S : List Ask) (vv : Value), v = vv ∧ q ≤ 90 ∧ i = .int .i64 (q : Int) ∧ Hid (OwnA wr w.heap.size vv S ∧ (∀ x ∈ S, x.In) ∧ S.length = q ∧ Below w.heap.size w wr)) (fun _ i _ => 90 - (intOf i).toNat)
      case atStart => exact ⟨0, [], _, rfl, by omega, rfl, Lib.hid ⟨OwnA.nil _ _, by simp, rfl, b0⟩⟩
      case round =>
        obtain ⟨q, S, vv, rfl, hq, rfl, HS⟩ := hrel
        clear b0
        obtain ⟨hown, hSi, hSl, hbw⟩ := HS.out
        obtain ⟨AS, cS, hv, hra, _⟩ := hown.ra hSi
        rw [hSl] at hv hra
        subst hv
        have hbs := hbw.size
        have HSI := Lib.hid (⟨hSi, hSl⟩ : _ ∧ _)
        have HL := Lib.hid (show S.length + 1 ≤ 5864062014805 by omega)
        by_cases hl2 : q < 90
        · have g2 : (q : Int) < 90 := by omega
          obtain ⟨kk, hkk, hk64⟩ := u64_ex ((wrap64 ((q : Int) * ((k : Int) + 1))).tmod 13)
          have hK := Int.lt_tmod_of_pos (wrap64 (wrap64 ((q : Int) * (q : Int)) + (k : Int))) (show (0 : Int) < 5 by omega)
          have hK2 := Int.tmod_lt_of_pos (wrap64 (wrap64 ((q : Int) * (q : Int)) + (k : Int))) (show (0 : Int) < 5 by omega)
          have HIN : Hid (Ask.In ⟨(wrap64 (wrap64 ((q : Int) * (q : Int)) + (k : Int))).tmod 5, kk, wrap64 ((wrap64 ((q : Int) * (k : Int))).tmod 31 - 4)⟩) := Lib.hid ⟨by show I64 ((wrap64 (wrap64 ((q : Int) * (q : Int)) + (k : Int))).tmod 5); generalize ((wrap64 (wrap64 ((q : Int) * (q : Int)) + (k : Int))).tmod 5) = z at *; unfold I64; omega, hk64, w64_in _⟩
          have oA := hown.on (belowA wr (.cells #[.int .i64 ((wrap64 (wrap64 ((q : Int) * (q : Int)) + (k : Int))).tmod 5), .int .u64 (kk : Int), .int .i64 (wrap64 ((wrap64 ((q : Int) * (k : Int))).tmod 31 - 4))] 25))
          have rA := one_ra wr ⟨(wrap64 (wrap64 ((q : Int) * (q : Int)) + (k : Int))).tmod 5, kk, wrap64 ((wrap64 ((q : Int) * (k : Int))).tmod 31 - 4)⟩ HIN.out
          have bA9 := hbw.trans ((belowA wr (.cells #[.int .i64 ((wrap64 (wrap64 ((q : Int) * (q : Int)) + (k : Int))).tmod 5), .int .u64 (kk : Int), .int .i64 (wrap64 ((wrap64 ((q : Int) * (k : Int))).tmod 31 - 4))] 25)).mono hbs)
          simp only at rA
          rw [← hkk] at rA oA bA9
          have sA := bA9.size
          have HKK := Lib.hid hkk
          clear hK hK2 hkk hk64 hown hbw hbs hSi hSl hra HS
          go_wp2_with (at_builtin; go_loud (with_reducible refine wpList_appendA rfl (.tmp 12) (.tmp 31) rfl rfl w.heap.size (.slice AS q cS) S (by with_unfolding_all rfl) oA _ _ 1 1 [⟨(wrap64 (wrap64 ((q : Int) * (q : Int)) + (k : Int))).tmod 5, kk, wrap64 ((wrap64 ((q : Int) * (k : Int))).tmod 31 - 4)⟩] (by with_unfolding_all rfl) rA HL.out sA ?_); intro v9 w9 ha9)
          have b9 := below_grown bA9 sA ha9.2 (fun kk hkk => (World.ownsRow.lt oA kk hkk).1)
          have HR := Lib.hid (show OwnA w9 w.heap.size v9 (S ++ [⟨(wrap64 (wrap64 ((q : Int) * (q : Int)) + (k : Int))).tmod 5, kk, wrap64 ((wrap64 ((q : Int) * (k : Int))).tmod 31 - 4)⟩]) ∧ (∀ x ∈ S ++ [⟨(wrap64 (wrap64 ((q : Int) * (q : Int)) + (k : Int))).tmod 5, kk, wrap64 ((wrap64 ((q : Int) * (k : Int))).tmod 31 - 4)⟩], x.In) ∧ (S ++ [(⟨(wrap64 (wrap64 ((q : Int) * (q : Int)) + (k : Int))).tmod 5, kk, wrap64 ((wrap64 ((q : Int) * (k : Int))).tmod 31 - 4)⟩ : Ask)]).length = q + 1 ∧ Below w.heap.size w w9 from ⟨ha9.1, fun x hx => by
            rcases List.mem_append.1 hx with h1 | h1
            · exact HSI.out.1 x h1
            · rw [List.mem_singleton] at h1
              rw [h1]
              exact HIN.out, by rw [List.length_append, HSI.out.2]; rfl, b9⟩)
          clear ha9 oA rA bA9 b9 sA
          go_roundw
          case rel => exact ⟨q + 1, _, _, rfl, by omega, by go_num, HR⟩
          case measure => simp [intOf]; omega
        · have g2 : ¬ (q : Int) < 90 := by omega
          have HR := Lib.hid hra
          clear hown hSi hSl hra HS hbs HSI HL hl2
          go_wp2_with fail
          ((with_reducible refine (play_any AS q cS S _ HR.out (by omega)).mono ?_); rintro e w1 ⟨rfl, d1⟩)
          have b1 := hbw.trans (d1.mono hbw.size)
          clear hbw d1
          go_wp2_with fail
          go_roundw
          case rel => exact ⟨k + 1, by omega, by go_num, b1⟩
          case measure => simp [intOf]; omega
    · have g1 : ¬ (k : Int) < 40 := by omega
      have HC := Lib.hid (lit12_play wr)
      have HB := Lib.hid b0
      clear hlt b0
      go_wp2_with fail
      ((with_reducible refine HC.out.mono ?_); rintro e w1 ⟨rfl, d1⟩)
      have b2 := HB.out.trans (d1.mono HB.out.size)
      clear HC HB d1
      go_wp2_with fail
      ((with_reducible refine (known12_any _).mono ?_); rintro e w4 ⟨rfl, d4⟩)
      have b4 := b2.trans (d4.mono b2.size)
      clear b2 d4
      go_wp2_with fail
      go_ret
      exact ⟨rfl, b4⟩
end Go.Proofs.Ytkhhaokelhmikaa
