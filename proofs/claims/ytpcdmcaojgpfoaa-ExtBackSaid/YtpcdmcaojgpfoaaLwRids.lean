/- The walk of limelightlaw4.ExtRids. -/
import Derived.Test.YtpcdmcaojgpfoaaExL
import Derived.Test.YtpcdmcaojgpfoaaCWithinE
import Derived.Deep.CutRange
namespace Go.Proofs.Ytpcdmcaojgpfoaa.RP
open Go.RowKit
set_option linter.unusedVariables false
set_option linter.unusedSimpArgs false
set_option maxRecDepth 20000

theorem extr_size (a : ByteArray) (n : Nat) : (a.extract 0 n).size = min n a.size := by rw [ByteArray.size_extract]; omega
theorem str_empty {a : ByteArray} (h : a.size = 0) : a.toList = [] := by
  rw [ByteArray.toList_eq]
  exact List.eq_nil_of_length_eq_zero h
theorem str_some {a : ByteArray} (h : ¬ a.size = 0) : ¬ a.toList = [] := by
  rw [ByteArray.toList_eq]
  intro e
  exact h (congrArg List.length e)
theorem size_pos {a : ByteArray} (h : a.toList.isEmpty = false) : 1 ≤ a.size := by
  by_cases h0 : a.size = 0
  · rw [str_empty h0] at h
    cases h
  · omega
theorem extZ (W : World) : Calls Try.prog 28 #[pExt 0 none 0 0] W fun e w' => e = .returned (.tuple #[.string ⟨#[]⟩, .bool false]) ∧ Below W.heap.size W w' := by
  have h := ext_rid 0 none 0 0 [] W (R8.nil _ _ _ _) (by omega)
  unfold RidOut at h
  have h0 : ridO 0 [] = none := ridO_err (by decide)
  unfold ridS ridK at h
  rw [h0] at h
  exact h
set_option maxRecDepth 100000 in
set_option maxHeartbeats 8000000 in
theorem extRids_walk (s : ByteArray) (other : Int) (w : World) (hs : s.size ≤ 140737488351232) (ho : I64 other) :
    Calls Try.prog 8 #[.string s, .int .i64 other] w (Yes w) := by
  have sz := extr_size s 16
  obtain ⟨k, hk0, hk1, _, hkw⟩ := within_ex other 0 12 ho (by omega) (by omega) (by omega)
  have kc := Go.Joins.run_convert_bytes_const_at (P := Try.prog) w 26 5 #[.int .u8 110, .int .u8 111] 2 2 w.heap.size rfl Try.underlying26 Try.underlying5
  have kch := Lib.hid kc
  clear kc
  go_enter Try.func8, Try.ntmps8
  go_upto_if 18 with (fail)
  go_cut [0] from 16 to 21 (fun s0 wc => ∃ X : ByteArray, X.size ≤ 16 ∧ s0 = .string X ∧ wc = w)
  case first =>
    by_cases ga : 16 < s.size
    · go_wp2_with fail
      go_meet
      case rel => exact ⟨_, by omega, rfl, rfl⟩
    · go_wp2_with fail
      go_meet
      case rel => exact ⟨s, by omega, rfl, rfl⟩
  case rest =>
    obtain ⟨X, hz, rfl, rfl⟩ := hcut
    clear sz hs
    go_upto_if 22 with (fail)
    go_cut [0] from 21 to 23 (fun s0 wd => ∃ Y : ByteArray, 1 ≤ Y.size ∧ Y.size ≤ 16 ∧ s0 = .string Y ∧ wd = wc)
    case first =>
      clear kch
      generalize hB : X.toList.isEmpty = B
      have hBh := Lib.hid hB
      clear hB
      cases B
      · go_wp2_with fail
        go_meet
        case rel => exact ⟨X, size_pos hBh.out, hz, rfl, rfl⟩
      · go_wp2_with fail
        go_meet
        case rel => exact ⟨_, by decide, by decide, rfl, rfl⟩
    case rest =>
      obtain ⟨Y, hz1, hz2, rfl, hwd⟩ := hcut
      subst hwd
      clear hz
      have kc := kch.out
      have rn := lit_r8 [110, 111] #[.int .u8 110, .int .u8 111] 2 (2, 3) rfl rfl wc
      have bX : Below wc.heap.size wc (wc.alloc (.cells #[.int .u8 110, .int .u8 111] 5 (2, 3))) := (Below.refl _ wc).alloc (Nat.le_refl _) _
      have sX : (wc.alloc (.cells #[.int .u8 110, .int .u8 111] 5 (2, 3))).heap.size = wc.heap.size + 1 := by simp
      obtain ⟨cY, WY, hcv, rY, bY, sY⟩ := conv_str Y (wc.alloc (.cells #[.int .u8 110, .int .u8 111] 5 (2, 3)))
      rw [sX] at hcv sY rY
      have rn := rn.on bY
      have bY := bX.trans (bY.mono bX.size)
      clear kch bX sX
      go_wp2_with (go_at_call 11; refine (hkw _).mono ?_; rintro e w' ⟨rfl, rfl⟩)
      have hD : Y.data.toList.length = Y.size := rfl
      have hRE := re_two WY ⟨2 + k, some ⟨w'.heap.size, 0, none⟩, 2, [110, 111]⟩ ⟨1, some ⟨w'.heap.size + 1, 0, none⟩, cY, Y.data.toList⟩ ⟨by show I64 (2 + k); unfold I64; omega, rn⟩ ⟨by show I64 1; unfold I64; omega, rY⟩
      have bz := bY.alloc bY.size (.cells #[.int .i64 (2 + k), .slice (some ⟨w'.heap.size, 0, none⟩) 2 2, .int .i64 1, .slice (some ⟨w'.heap.size + 1, 0, none⟩) Y.size cY] 51)
      rw [sY] at hRE
      have hRE : RE (WY.alloc (.cells #[.int .i64 (2 + k), .slice (some ⟨w'.heap.size, 0, none⟩) 2 2, .int .i64 1, .slice (some ⟨w'.heap.size + 1, 0, none⟩) Y.size cY] 51)) (WY.alloc (.cells #[.int .i64 (2 + k), .slice (some ⟨w'.heap.size, 0, none⟩) 2 2, .int .i64 1, .slice (some ⟨w'.heap.size + 1, 0, none⟩) Y.size cY] 51)).heap.size (some ⟨w'.heap.size + 1 + 1, 0, none⟩) 2 2 [⟨2 + k, some ⟨w'.heap.size, 0, none⟩, 2, [110, 111]⟩, ⟨1, some ⟨w'.heap.size + 1, 0, none⟩, cY, Y.data.toList⟩] := hRE
      obtain ⟨S0, K0, hSK, hYS⟩ : ∃ (S0 : ByteArray) (K0 : Bool), (∀ prof, prof = 48862 ∨ prof = 4096 → elemsErr prof [⟨2 + k, some ⟨w'.heap.size, 0, none⟩, 2, [110, 111]⟩, ⟨1, some ⟨w'.heap.size + 1, 0, none⟩, cY, Y.data.toList⟩] = 0 ∧
          ridS prof (elemsB prof [⟨2 + k, some ⟨w'.heap.size, 0, none⟩, 2, [110, 111]⟩, ⟨1, some ⟨w'.heap.size + 1, 0, none⟩, cY, Y.data.toList⟩]) = S0 ∧ ridK prof (elemsB prof [⟨2 + k, some ⟨w'.heap.size, 0, none⟩, 2, [110, 111]⟩, ⟨1, some ⟨w'.heap.size + 1, 0, none⟩, cY, Y.data.toList⟩]) = K0) ∧ (K0 = true → S0 = Y) := by
        have hgood : ∀ one, ∀ e ∈ [(⟨2 + k, some ⟨w'.heap.size, 0, none⟩, 2, [110, 111]⟩ : El), ⟨1, some ⟨w'.heap.size + 1, 0, none⟩, cY, Y.data.toList⟩], badE one e = false := fun one e he => by
          rcases List.mem_cons.1 he with rfl | he
          · cases one <;> simp only [badE, Bool.or_eq_false_iff, Bool.and_eq_false_iff, decide_eq_false_iff_not, List.length_cons, List.length_nil] <;> omega
          · rw [List.mem_singleton.1 he]
            cases one <;> simp only [badE, hD, Bool.or_eq_false_iff, Bool.and_eq_false_iff, decide_eq_false_iff_not] <;> omega
        have hro := fun prof hp => rid_two (prof := prof) hp ⟨2 + k, some ⟨w'.heap.size, 0, none⟩, 2, [110, 111]⟩ ⟨1, some ⟨w'.heap.size + 1, 0, none⟩, cY, Y.data.toList⟩ (by show 2 + k ≠ 1; omega) rfl (hgood _)
        by_cases hr : right Y = true
        · refine ⟨Y, true, fun prof hp => ⟨(back hp _ (by simp) (hgood _)).1, ?_⟩, fun _ => rfl⟩
          have h1 := hro prof hp
          simp only [ba_list, hr, if_true] at h1
          unfold ridS ridK
          rw [h1]
          exact ⟨ba_list Y, rfl⟩
        · refine ⟨⟨#[]⟩, false, fun prof hp => ⟨(back hp _ (by simp) (hgood _)).1, ?_⟩, fun h => by cases h⟩
          have h1 := hro prof hp
          simp only [ba_list, hr, if_false] at h1
          unfold ridS ridK
          rw [h1]
          exact ⟨rfl, rfl⟩
      have hEd : ∀ e ∈ [(⟨2 + k, some ⟨w'.heap.size, 0, none⟩, 2, [110, 111]⟩ : El), ⟨1, some ⟨w'.heap.size + 1, 0, none⟩, cY, Y.data.toList⟩], e.d.length ≤ 140737488355328 := fun e he => by
        rcases List.mem_cons.1 he with rfl | he
        · simp
        · rw [List.mem_singleton.1 he]
          show Y.data.toList.length ≤ _
          omega
      have hz0 := extZ
      clear rn rY bY sY hcv kc hkw hD
      revert hRE bz
      generalize WY.alloc (.cells #[.int .i64 (2 + k), .slice (some ⟨w'.heap.size, 0, none⟩) 2 2, .int .i64 1, .slice (some ⟨w'.heap.size + 1, 0, none⟩) Y.size cY] 51) = W2
      intro bz hRE
      revert hRE hSK hEd
      generalize [(⟨2 + k, some ⟨w'.heap.size, 0, none⟩, 2, [110, 111]⟩ : El), ⟨1, some ⟨w'.heap.size + 1, 0, none⟩, cY, Y.data.toList⟩] = E
      intro hSK hEd hRE
      obtain ⟨p1, p2, p3⟩ := hSK 48862 (.inl rfl)
      obtain ⟨m1, m2, m3⟩ := hSK 4096 (.inr rfl)
      have q1 := fun W hW => ext_bytes 48862 _ 2 2 E W (hRE.on hW) (by omega) hEd
      have q2 := fun W hW => ext_bytes 4096 _ 2 2 E W (hRE.on hW) (by omega) hEd
      unfold ElemsRet at q1 q2
      rw [p1] at q1
      rw [m1] at q2
      refine (q1 _ (Below.refl _ _)).mono ?_
      rintro e w1 ⟨A1, c1, rfl, r1, b1⟩
      clear q1
      go_wp2_with fail
      refine (q2 _ b1).mono ?_
      rintro e w2 ⟨A2, c2, rfl, r2, b2⟩
      have r1 := r1.on b2
      have b2 := bz.trans ((b1.trans (b2.mono b1.size)).mono bz.size)
      have l1 := elemsB_len 48862 E
      have l2 := elemsB_len 4096 E
      clear q2 b1 bz hRE hSK hEd p1 m1
      have q1 := fun W hW => ext_rid 48862 A1 _ c1 _ W (r1.on hW) (by omega)
      have q2 := fun W hW => ext_rid 4096 A2 _ c2 _ W (r2.on hW) (by omega)
      unfold RidOut pExt at q1 q2
      rw [p2, p3] at q1
      rw [m2, m3] at q2
      clear p2 p3 m2 m3 r1 r2 l1 l2
      generalize (elemsB 48862 E).length = n1 at q1 ⊢
      generalize (elemsB 4096 E).length = n2 at q2 ⊢
      go_wp2_with fail
      refine (q1 _ (Below.refl _ _)).mono ?_
      rintro e w3 ⟨rfl, b3⟩
      clear q1
      go_wp2_with fail
      refine (q2 _ b3).mono ?_
      rintro e w4 ⟨rfl, b4⟩
      have b4 := b2.trans ((b3.trans (b4.mono b3.size)).mono b2.size)
      clear q2 b3 b2
      unfold pExt at hz0
      go_wp2_with fail
      refine (hz0 _).mono ?_
      rintro e w5 ⟨rfl, b5⟩
      have b5 := b4.trans (b5.mono b4.size)
      have hkn := known4 w5
      clear hz0 b4
      cases K0
      · go_wp2_with fail
        refine hkn.mono ?_
        rintro e w6 ⟨rfl, b6⟩
        go_wp2_with fail
        go_ret
        exact ⟨by simp, b5.trans (b6.mono b5.size)⟩
      · have hYS := hYS rfl
        subst hYS
        go_wp2_with fail
        refine hkn.mono ?_
        rintro e w6 ⟨rfl, b6⟩
        go_wp2_with fail
        go_ret
        exact ⟨by simp, b5.trans (b6.mono b5.size)⟩
end Go.Proofs.Ytpcdmcaojgpfoaa.RP
