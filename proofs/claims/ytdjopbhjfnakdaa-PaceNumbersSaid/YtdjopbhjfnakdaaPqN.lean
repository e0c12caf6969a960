/- PaceNumbers' walk. -/
import Derived.Test.YtdjopbhjfnakdaaPqY
import Derived.Test.YtdjopbhjfnakdaaPqK
namespace Go.Proofs.Ytdjopbhjfnakdaa
open Go.RowKit
set_option linter.unusedVariables false
set_option linter.unusedSimpArgs false
set_option maxRecDepth 20000

theorem w64_in (m : Int) : I64 (wrap64 m) := by unfold wrap64 I64; omega
/-- So many datagrams of one byte. -/
def onesQ (n : Nat) : Row8 := List.replicate n [1]
theorem ones_put {n : Nat} (h : n < 16) : putB 50000 (onesQ n) [1] = true := by simp [putB, onesQ, costN]; omega
theorem ones_full : putB 50000 (onesQ 16) [1] = false := by simp [putB, onesQ]
theorem ones_snoc (n : Nat) : onesQ n ++ [[1]] = onesQ (n + 1) := by simp [onesQ, List.replicate_succ']
theorem ones_ok {n : Nat} (h : n ≤ 16) : QuOk 50000 (onesQ n) := ⟨by simp [onesQ]; omega, fun b hb => by
  have := List.eq_of_mem_replicate hb
  subst this
  simp [costN]⟩
theorem ones_go : goO 50000000000 (onesQ 16) = onesQ 16 := by decide
/-- What stands while more are put than may wait. -/
def NumAt (w0 : World) (G gb i : Nat) (W : World) : Prop := ∃ S, PqAt W G gb 5 50000 50000000000 (onesQ (min i 16)) (i - min i 16) S ∧ (∀ k, S k → w0.heap.size ≤ k) ∧ Below w0.heap.size w0 W
set_option maxHeartbeats 4000000 in
theorem paceNumbers_walk (w : World) : Calls Try.prog 3 #[] w (Yes w) := by
  have IC := Lib.hid (fun (k : Int) (h1 : -100000 ≤ k) (h2 : k ≤ 100000) => (by unfold I64; omega : I64 k))
  go_enter Try.func3, Try.ntmps3
  go_wp2_with fail
  go_loopw [1, 2, 3] (fun i _ _ wr => ∃ k : Nat, k ≤ 40 ∧ i = .int .i64 (k : Int) ∧ Below w.heap.size w wr) (fun i _ _ _ => 40 - (intOf i).toNat)
  case atStart => exact ⟨0, by omega, rfl, Below.refl _ _⟩
  case round =>
    obtain ⟨k, hk, rfl, b0⟩ := hrel
    by_cases hlt : k < 40
    · have g1 : (k : Int) < 40 := by omega
      go_wp2_with fail
      go_loopw [2, 3] (fun v i wr => ∃ (q : Nat) (S : List Ask) (vv : Value), v = vv ∧ q ≤ 80 ∧ i = .int .i64 (q : Int) ∧ Hid (OwnA wr w.heap.size vv S ∧ (∀ x ∈ S, x.In) ∧ S.length = q ∧ Below w.heap.size w wr)) (fun _ i _ => 80 - (intOf i).toNat)
      case atStart => exact ⟨0, [], _, rfl, by omega, rfl, Lib.hid ⟨OwnA.nil _ _, by simp, rfl, b0⟩⟩
      case round =>
        obtain ⟨q, S, vv, rfl, hq, rfl, HS⟩ := hrel
        clear b0
        obtain ⟨hown, hSi, hSl, hbw⟩ := HS.out
        obtain ⟨AS, cS, hv, hra, _⟩ := hown.ra hSi
        rw [hSl] at hv hra
        subst hv
        have hbs := hbw.size
        have HSI := Lib.hid (⟨hSi, hSl⟩ : _ ∧ _)
        have HL := Lib.hid (show S.length + 1 ≤ 8796093022208 by omega)
        by_cases hl2 : q < 80
        · have g2 : (q : Int) < 80 := by omega
          have hK := Int.lt_tmod_of_pos (wrap64 (wrap64 ((q : Int) * (q : Int)) + (k : Int))) (show (0 : Int) < 6 by omega)
          have hK2 := Int.tmod_lt_of_pos (wrap64 (wrap64 ((q : Int) * (q : Int)) + (k : Int))) (show (0 : Int) < 6 by omega)
          have hN := Int.lt_tmod_of_pos (wrap64 (wrap64 ((q : Int) * (k : Int)) * 7)) (show (0 : Int) < 600 by omega)
          have hN2 := Int.tmod_lt_of_pos (wrap64 (wrap64 ((q : Int) * (k : Int)) * 7)) (show (0 : Int) < 600 by omega)
          have hin : (⟨(wrap64 (wrap64 ((q : Int) * (q : Int)) + (k : Int))).tmod 6, (wrap64 (wrap64 ((q : Int) * (k : Int)) * 7)).tmod 600⟩ : Ask).In := ⟨by show I64 ((wrap64 (wrap64 ((q : Int) * (q : Int)) + (k : Int))).tmod 6); generalize (wrap64 (wrap64 ((q : Int) * (q : Int)) + (k : Int))).tmod 6 = z at hK hK2; unfold I64; omega, by show I64 ((wrap64 (wrap64 ((q : Int) * (k : Int)) * 7)).tmod 600); generalize (wrap64 (wrap64 ((q : Int) * (k : Int)) * 7)).tmod 600 = z at hN hN2; unfold I64; omega⟩
          have HIN := Lib.hid hin
          clear hK hK2 hN hN2 hin
          have oA := hown.on (belowA wr (.cells #[.int .i64 ((wrap64 (wrap64 ((q : Int) * (q : Int)) + (k : Int))).tmod 6), .int .i64 ((wrap64 (wrap64 ((q : Int) * (k : Int)) * 7)).tmod 600)] 24))
          have rA := one_ra wr ⟨(wrap64 (wrap64 ((q : Int) * (q : Int)) + (k : Int))).tmod 6, (wrap64 (wrap64 ((q : Int) * (k : Int)) * 7)).tmod 600⟩ HIN.out
          have bA9 := hbw.trans ((belowA wr (.cells #[.int .i64 ((wrap64 (wrap64 ((q : Int) * (q : Int)) + (k : Int))).tmod 6), .int .i64 ((wrap64 (wrap64 ((q : Int) * (k : Int)) * 7)).tmod 600)] 24)).mono hbs)
          have sA := bA9.size
          clear hown hbw hbs hSi hSl hra HS
          go_wp2_with (at_builtin; go_loud (with_reducible refine wpList_appendA rfl (.tmp 14) (.tmp 27) rfl rfl w.heap.size (.slice AS q cS) S (by with_unfolding_all rfl) oA _ _ 1 1 [⟨(wrap64 (wrap64 ((q : Int) * (q : Int)) + (k : Int))).tmod 6, (wrap64 (wrap64 ((q : Int) * (k : Int)) * 7)).tmod 600⟩] (by with_unfolding_all rfl) rA HL.out sA ?_); intro v9 w9 ha9)
          have b9 := below_grown bA9 sA ha9.2 (fun kk hkk => (World.ownsRow.lt oA kk hkk).1)
          have o9 := ha9.1
          have HR := Lib.hid (show OwnA w9 w.heap.size v9 (S ++ [⟨(wrap64 (wrap64 ((q : Int) * (q : Int)) + (k : Int))).tmod 6, (wrap64 (wrap64 ((q : Int) * (k : Int)) * 7)).tmod 600⟩]) ∧ (∀ x ∈ S ++ [⟨(wrap64 (wrap64 ((q : Int) * (q : Int)) + (k : Int))).tmod 6, (wrap64 (wrap64 ((q : Int) * (k : Int)) * 7)).tmod 600⟩], x.In) ∧ (S ++ [(⟨(wrap64 (wrap64 ((q : Int) * (q : Int)) + (k : Int))).tmod 6, (wrap64 (wrap64 ((q : Int) * (k : Int)) * 7)).tmod 600⟩ : Ask)]).length = q + 1 ∧ Below w.heap.size w w9 from ⟨o9, fun x hx => by
            rcases List.mem_append.1 hx with h1 | h1
            · exact HSI.out.1 x h1
            · rw [List.mem_singleton] at h1
              subst h1
              exact HIN.out, by rw [List.length_append, HSI.out.2]; rfl, b9⟩)
          clear ha9 oA rA bA9 o9 b9 sA
          go_roundw
          case rel => exact ⟨q + 1, _, _, rfl, by omega, by go_num, HR⟩
          case measure => simp [intOf]; omega
        · have g2 : ¬ (q : Int) < 80 := by omega
          have HR := Lib.hid hra
          clear hown hSi hSl hra HS hbs HSI HL
          go_wp2_with fail
          ((with_reducible refine (play_any _ _ AS q cS S _ (by first | exact w64_in _ | (unfold I64; omega)) (by first | exact w64_in _ | (unfold I64; omega)) HR.out (by omega)).mono ?_); rintro e w1 ⟨rfl, d1⟩)
          have b1 := hbw.trans (d1.mono hbw.size)
          have r1 := HR.out.on d1
          clear hbw d1
          go_wp2_with fail
          ((with_reducible refine (play_any _ _ AS q cS S _ (by first | exact w64_in _ | (unfold I64; omega)) (by first | exact w64_in _ | (unfold I64; omega)) r1 (by omega)).mono ?_); rintro e w2 ⟨rfl, d2⟩)
          have b2 := b1.trans (d2.mono b1.size)
          clear b1 r1 d2
          go_wp2_with fail
          go_roundw
          case rel => exact ⟨k + 1, by omega, by go_num, b2⟩
          case measure => simp [intOf]; omega
    · have g1 : ¬ (k : Int) < 40 := by omega
      clear hlt
      go_wp2_with fail
      refine (pq_new 5 50000 (IC.out _ (by omega) (by omega)) (IC.out _ (by omega) (by omega)) _).mono ?_
      rintro e w1 ⟨G, gb, S, rfl, p0, hS, b1⟩
      rw [show heldN 5 = 5 by decide, show heldN 50000 = 50000 by decide] at p0
      have HN := Lib.hid (⟨S, p0, fun k hk => Nat.le_trans b0.size (hS k hk), b0.trans (b1.mono b0.size)⟩ : NumAt w G gb 0 w1)
      clear p0 hS b1 b0
      have OK : Hid (BkOk 5 50000 50000000000) := Lib.hid ⟨by omega, by omega, by omega⟩
      go_wp2_with fail
      go_loopw [5] (fun i wr => ∃ q : Nat, q ≤ 19 ∧ i = .int .i64 (q : Int) ∧ Hid (NumAt w G gb q wr)) (fun i _ => 19 - (intOf i).toNat)
      case atStart => exact ⟨0, by omega, rfl, HN⟩
      case round =>
        obtain ⟨q, hq, rfl, HN⟩ := hrel
        obtain ⟨S, p0, lo, b0⟩ := HN.out
        by_cases hql : q < 19
        · have g2 : (q : Int) < 19 := by omega
          have bM := belowA wr (.cells #[.int .u8 1] 5)
          have p1 := p0.keep (OnlyS.of (S := fun _ => False) bM) (fun _ _ h => h)
          have hbM : Blk (wr.alloc (.cells #[.int .u8 1] 5)) wr.heap.size 5 (([1] : List UInt8).map bv).toArray := Blk.new _ _ _
          have b1 := b0.trans (bM.mono b0.size)
          have hx8 := hbM.r8 (n := 1) (c := 1) rfl (Nat.le_refl _)
          by_cases h16 : q < 16
          · have m1 : min q 16 = q := by omega
            have m2 : min (q + 1) 16 = q + 1 := by omega
            have z1 : decide ((q : Int) < 16) = true := by simp; omega
            have z2 : (q : Int) < 16 := by omega
            rw [m1, Nat.sub_self] at p1
            have hp := pq_put_at p1 OK.out (ones_ok (by omega)) (by omega) hx8 (by omega) (ones_put h16) (putQ_yes (ones_put h16)) (putC_yes (ones_put h16))
            rw [ones_snoc] at hp
            have HK := Lib.hid (⟨lo, b1, m2⟩ : _ ∧ _ ∧ _)
            clear p0 lo b0 bM p1 hbM b1 hx8 m1 m2 HN
            go_wp2_with fail
            ((with_reducible refine hp.mono ?_); rintro e W2 ⟨rfl, S2, p2, hS2, ho2⟩)
            have b2 := HK.out.2.1.trans (ho2.below HK.out.1 HK.out.2.1.size)
            have HF := Lib.hid (⟨S2, by rw [HK.out.2.2, Nat.sub_self]; exact p2, fun k hk => by
              rcases hS2 k hk with h1 | h1
              · exact HK.out.1 k h1
              · exact Nat.le_trans HK.out.2.1.size h1, b2⟩ : NumAt w G gb (q + 1) W2)
            clear hp p2 hS2 ho2 b2
            go_wp2_with fail
            go_roundw
            case rel => exact ⟨q + 1, by omega, by go_num, HF⟩
            case measure => simp [intOf]; omega
          · have m1 : min q 16 = 16 := by omega
            have m2 : min (q + 1) 16 = 16 := by omega
            have m3 : q - 16 + 1 = q + 1 - 16 := by omega
            have z1 : decide ((q : Int) < 16) = false := by simp; omega
            have z2 : ¬ (q : Int) < 16 := by omega
            rw [m1] at p1
            have hp := pq_put_at p1 OK.out (ones_ok (by omega)) (by omega) hx8 (by omega) ones_full (putQ_no ones_full) (putC_no ones_full)
            rw [m3] at hp
            have HK := Lib.hid (⟨lo, b1, m2⟩ : _ ∧ _ ∧ _)
            clear p0 lo b0 bM p1 hbM b1 hx8 m1 m2 m3 HN
            go_wp2_with fail
            ((with_reducible refine hp.mono ?_); rintro e W2 ⟨rfl, S2, p2, hS2, ho2⟩)
            have b2 := HK.out.2.1.trans (ho2.below HK.out.1 HK.out.2.1.size)
            have HF := Lib.hid (⟨S2, by rw [HK.out.2.2]; exact p2, fun k hk => by
              rcases hS2 k hk with h1 | h1
              · exact HK.out.1 k h1
              · exact Nat.le_trans HK.out.2.1.size h1, b2⟩ : NumAt w G gb (q + 1) W2)
            clear hp p2 hS2 ho2 b2
            go_wp2_with fail
            go_roundw
            case rel => exact ⟨q + 1, by omega, by go_num, HF⟩
            case measure => simp [intOf]; omega
        · have g2 : ¬ (q : Int) < 19 := by omega
          have hq19 : q = 19 := by omega
          subst hq19
          have p0 : PqAt wr G gb 5 50000 50000000000 (onesQ 16) 3 S := p0
          clear HN hql
          go_wp2_with fail
          ((with_reducible refine (pq_cut p0).mono ?_); rintro e V1 hd)
          have d1 := hd.below
          obtain ⟨rfl, _⟩ := hd
          have p1 := p0.keep (OnlyS.of (S := fun _ => False) d1) (fun _ _ h => h)
          have b1 := b0.trans (d1.mono b0.size)
          have hp := pq_go p1 OK.out (ones_ok (by omega)) (fun b hb => by
            have := List.eq_of_mem_replicate hb
            subst this
            simp)
          unfold PqGo at hp
          rw [ones_go] at hp
          clear p0 b0 d1 p1
          go_wp2_with fail
          ((with_reducible refine hp.mono ?_); rintro e V2 ⟨Ao, no, co, S4, F, rfl, rb, _, p4, hS4, ho4, _⟩)
          have hno : no = 16 := by have := rb.1; simpa [onesQ] using this.symm
          subst hno
          have b4 := b1.trans (ho4.below lo b1.size)
          clear hp rb p4 hS4 ho4 b1
          go_wp2_with fail
          ((with_reducible refine (known11_any _).mono ?_); rintro e V3 ⟨rfl, d3⟩)
          have b5 := b4.trans (d3.mono b4.size)
          clear d3 b4
          go_wp2_with fail
          go_ret
          exact ⟨rfl, b5⟩
end Go.Proofs.Ytdjopbhjfnakdaa
