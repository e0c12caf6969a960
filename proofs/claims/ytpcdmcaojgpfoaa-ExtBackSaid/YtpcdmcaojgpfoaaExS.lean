/- Contract: limelightref3.ReadElems. -/
import Derived.Test.YtpcdmcaojgpfoaaExR
namespace Go.Proofs.Ytpcdmcaojgpfoaa.RP
open Go.RowKit
set_option linter.unusedVariables false
set_option linter.unusedSimpArgs false
set_option maxRecDepth 20000

set_option maxHeartbeats 8000000 in
theorem ref_readElems (prof : Nat) (A : Option Addr) (n c : Nat) (l : List UInt8) (w : World) (h : R8 w w.heap.size A n c l) (hn : n ≤ 4000000) :
    Calls Try.prog 44 #[.int .u16 (prof : Int), .slice A n c] w (ReadOut prof l w) := by
  have hln := Lib.hid h.1
  go_enter Try.func44, Try.ntmps44
  by_cases hp1 : prof ≠ 48862 ∧ prof ≠ 4096
  · have hno := ReadOut.no (errR_other (l := l) hp1) (Below.refl w.heap.size w)
    have g1 : ((prof : Int) != 48862) = true := by simp; omega
    have g2 : ((prof : Int) != 4096) = true := by simp; omega
    clear hp1
    go_wp2_with fail
    go_ret2
    exact hno
  have hpp : prof = 48862 ∨ prof = 4096 := by omega
  clear hp1
  rcases hpp with rfl | rfl
  · go_wp2_with fail
    go_loopw [6, 7, 8, 9, 10, 11, 12] (fun v a _ _ _ _ _ wr => ∃ (i : Nat) (E : List El) (acc : List (Int × List UInt8)), a = .int .i64 (i : Int) ∧ i ≤ n ∧ E.length ≤ i ∧ E.map El.dat = acc ∧ RdTo true l i acc ∧ RowE w wr v E) (fun _ a _ _ _ _ _ _ => n - (intOf a).toNat)
    case atStart => exact ⟨0, [], [], rfl, by omega, by simp, rfl, RdTo.start _ _, RowE.nil (Below.refl _ _)⟩
    case round =>
      obtain ⟨i, E, acc, rfl, hi, hEi, hdat, hto, hrow⟩ := hrel
      by_cases hlt : i < n
      rotate_left
      · have hE0 : rdA true (l.drop i) = some [] := rd_past (by rw [hln.out]; omega) _
        have g1 : ¬ (i : Int) < (n : Int) := by omega
        have hdone : rdA true l = some acc := hto.done hE0
        obtain ⟨AE, cE, hvE, hRE⟩ := hrow.own.re hrow.els
        have hbE := hrow.below
        have hle : acc.length = E.length := by rw [← hdat, List.length_map]
        by_cases h8 : 8 < E.length
        · have hno := ReadOut.no (errR_long (prof := 48862) (by decide) hdone (by omega)) hbE
          have g8 : (8 : Int) < (E.length : Int) := by omega
          clear hdone hdat hto hE0 hrow hle
          subst hvE
          go_wp2_with fail
          go_ret2
          exact hno
        · have hyes := ReadOut.yes (errR_ok (prof := 48862) (by decide) (show rdA (isOne 48862) l = some (E.map El.dat) from hdone.trans (by rw [hdat])) (by rw [List.length_map]; exact h8)) hRE hbE
          have g8 : ¬ (8 : Int) < (E.length : Int) := by omega
          clear hdone hdat hto hE0 hrow hle
          subst hvE
          go_wp2_with fail
          go_ret2
          exact hyes
      have g1 : (i : Int) < (n : Int) := by omega
      have hil : i < l.length := by rw [hln.out]; exact hlt
      have hr := h.on hrow.below
      have hbt := bt_lt l i
      obtain ⟨b, off, hA, hbl, hcell⟩ := hr.2.2 (by omega)
      have c0 : wr.cell? ⟨b, off + i, none⟩ = some (.int .u8 (bt l i : Int)) := hcell i hlt
      clear hcell hr
      by_cases hz : bt l i = 0
      · have hto2 := hto.same (rd_zero hil _ hz)
        rw [hz] at c0
        clear hz hbt hto
        subst hA
        go_wp2_with fail
        go_roundw
        case rel => exact ⟨i + 1, E, acc, by go_num, by omega, by omega, hdat, hto2, hrow⟩
        case measure => simp [intOf]; omega
      have gz : ((bt l i : Int) == 0) = false := by simp; omega
      have e2 := andF (bt l i) hbt
      have hz' := Lib.hid hz
      have hilh := Lib.hid hil
      obtain ⟨X, hX⟩ : ∃ X, bt l i = X := ⟨_, rfl⟩
      rw [hX] at c0 hbt gz e2
      have hXh := Lib.hid hX
      obtain ⟨Y, hY⟩ : ∃ Y, X % 16 = Y := ⟨_, rfl⟩
      obtain ⟨Z, hZ⟩ : ∃ Z, X / 16 = Z := ⟨_, rfl⟩
      have hY9 : Y < 16 := by omega
      have hZ9 : Z < 16 := by omega
      rw [hY] at e2
      have e3 : (X : Int) / 16 = Z := by omega
      have u0 : IntKind.i64.wrap (Z : Int) = Z := by rw [IntKind.wrap_i64]; omega
      have u1 : IntKind.i64.wrap (Y : Int) = Y := by rw [IntKind.wrap_i64]; omega
      have u2 : IntKind.i64.wrap ((Y : Int) + 1) = (Y : Int) + 1 := by rw [IntKind.wrap_i64]; omega
      have u3 : IntKind.i64.wrap ((i : Int) + 1) = (i : Int) + 1 := by rw [IntKind.wrap_i64]; omega
      have hYh := Lib.hid hY
      have hZh := Lib.hid hZ
      clear hX hY hZ hz hil
      subst hA
      go_upto_region 8 with (fail)
      go_quiet (fail)
      have hrowQ := hrow.on (below_drewN wr.heap.size wr nq)
      clear hrow c0 e2 e3 u0 u1 u2 u3
      revert hrowQ
      generalize wr.drewN nq = W
      intro hrow
      by_cases hend : endB true X = true
      · have hE0 := rd_end hilh.out hz'.out (by rw [hXh.out]; exact hend)
        have hZ : Z = 15 ∨ Z = 0 := by
          have h1 := hZh.out
          simp [endB] at hend
          omega
        clear hend hZ9 hY9 hbt gz
        rcases hZ with hZ | hZ
        · rw [hZ] at *
          have hdone : rdA true l = some acc := hto.done hE0
          obtain ⟨AE, cE, hvE, hRE⟩ := hrow.own.re hrow.els
          have hbE := hrow.below
          have hle : acc.length = E.length := by rw [← hdat, List.length_map]
          by_cases h8 : 8 < E.length
          · have hno := ReadOut.no (errR_long (prof := 48862) (by decide) hdone (by omega)) hbE
            have g8 : (8 : Int) < (E.length : Int) := by omega
            clear hdone hdat hto hE0 hrow hle
            subst hvE
            go_wp2_with fail
            go_ret2
            exact hno
          · have hyes := ReadOut.yes (errR_ok (prof := 48862) (by decide) (show rdA (isOne 48862) l = some (E.map El.dat) from hdone.trans (by rw [hdat])) (by rw [List.length_map]; exact h8)) hRE hbE
            have g8 : ¬ (8 : Int) < (E.length : Int) := by omega
            clear hdone hdat hto hE0 hrow hle
            subst hvE
            go_wp2_with fail
            go_ret2
            exact hyes
        · rw [hZ] at *
          have hdone : rdA true l = some acc := hto.done hE0
          obtain ⟨AE, cE, hvE, hRE⟩ := hrow.own.re hrow.els
          have hbE := hrow.below
          have hle : acc.length = E.length := by rw [← hdat, List.length_map]
          by_cases h8 : 8 < E.length
          · have hno := ReadOut.no (errR_long (prof := 48862) (by decide) hdone (by omega)) hbE
            have g8 : (8 : Int) < (E.length : Int) := by omega
            clear hdone hdat hto hE0 hrow hle
            subst hvE
            go_wp2_with fail
            go_ret2
            exact hno
          · have hyes := ReadOut.yes (errR_ok (prof := 48862) (by decide) (show rdA (isOne 48862) l = some (E.map El.dat) from hdone.trans (by rw [hdat])) (by rw [List.length_map]; exact h8)) hRE hbE
            have g8 : ¬ (8 : Int) < (E.length : Int) := by omega
            clear hdone hdat hto hE0 hrow hle
            subst hvE
            go_wp2_with fail
            go_ret2
            exact hyes
      have hend' : endB true X = false := by simpa using hend
      have hZ0 : Z ≠ 0 ∧ Z ≠ 15 := by
        have h1 := hZh.out
        have h2 := hYh.out
        have h3 := hz'.out
        rw [hXh.out] at h3
        simp [endB] at hend'
        omega
      have q1 : ((Z : Int) == 15) = false := by simp; omega
      have q2 : ((Z : Int) == 0) = false := by simp; omega
      have he9 := Lib.hid hend'
      clear hend hend' hZ0
      have hMh : Hid (bt l i % 16 + 1 = Y + 1) := Lib.hid (by rw [hXh.out, hYh.out])
      have hIh : Hid (bt l i / 16 = Z) := Lib.hid (by rw [hXh.out, hZh.out])
      by_cases hfit : i + 1 + (Y + 1) ≤ n
      rotate_left
      · have hnone := hto.none (rd_one_no hilh.out hz'.out (by rw [hXh.out]; exact he9.out) (by rw [hMh.out, hln.out]; exact hfit))
        have hno := fun w' hb => ReadOut.no (w := w) (w' := w') (errR_short (prof := 48862) (by decide) hnone) hb
        have hct := fun W => ref_cut_no (some ⟨b, off, none⟩) n c W (by omega) ((i : Int) + 1) ((Y : Int) + 1) (by unfold I64; omega) (by simp [thB]; omega)
        have hbr := hrow.below
        clear hnone hto hrow hfit
        go_wp2_with fail
        refine (hct _).mono ?_
        rintro e w3 ⟨rfl, rfl⟩
        go_wp2_with fail
        go_ret2
        exact hno _ hbr
      have hto2 := hto.more (rd_one hilh.out hz'.out (by rw [hXh.out]; exact he9.out) (by rw [hMh.out, hln.out]; exact hfit))
      have hct := fun W hW => ref_cut_new (some ⟨b, off, none⟩) n c l W (h.on hW) (by omega) (i + 1) (Y + 1) hfit
      have hdl : ((l.drop (i + 1)).take (Y + 1)).length ≤ 256 := by simp; omega
      rw [hMh.out, hIh.out] at hto2
      rw [show ((i + 1 : Nat) : Int) = (i : Int) + 1 by omega, show ((Y + 1 : Nat) : Int) = (Y : Int) + 1 by omega] at hct
      obtain ⟨D, hD⟩ : ∃ D, (l.drop (i + 1)).take (Y + 1) = D := ⟨_, rfl⟩
      rw [hD] at hct hdl hto2
      have hid : I64 ((Z : Nat) : Int) := by unfold I64; omega
      clear hD hMh hIh
      have hvb := hrow.blk
      go_wp2_with fail
      refine (hct _ hrow.below).mono ?_
      rintro e w4 ⟨A4, c4, rfl, hR4, hb4, hA4⟩
      have hrow4 := hrow.on hb4
      have hxf : ∀ ad, A4 = some ad → Value.ownBlock u6 ≠ some ad.block ∧ ad.block < w4.heap.size ∧ w.heap.size ≤ ad.block := fun ad e => ⟨fun e' => by
        have h1 := hvb _ e'
        have h2 := (hA4 ad e).1
        omega, (hA4 ad e).2, by have h2 := (hA4 ad e).1; have h3 := hrow.below.size; omega⟩
      clear hct hvb hA4 hb4 hrow
      have hdxh := Lib.hid (show (E ++ [(⟨(Z : Nat), A4, c4, D⟩ : El)]).map El.dat = acc ++ [(((Z : Nat) : Int), D)] by rw [← hdat]; simp [El.dat])
      clear hdat
      obtain ⟨AE, cE, hvE, hRE⟩ := hrow4.own.re hrow4.els
      subst hvE
      clear hRE
      have hsz4 := hrow4.below.size
      go_wp2_with (at_builtin; (go_loud (with_reducible refine wpList_appendG rfl (.tmp 84) (.tmp 88) 44 44 51 rfl rfl _ 2 32 Try.underlying44 elem_info rfl (by decide) w.heap.size (.slice AE E.length cE) E.length (cellsE E) (by with_unfolding_all rfl) (by with_unfolding_all exact OwnE.alloc hrow4.own _) _ 1 1 (cellsE [⟨(Z : Nat), A4, c4, D⟩]) rfl rfl (by with_unfolding_all exact one_elem w4 ⟨(Z : Nat), A4, c4, D⟩) (one_elem_cells _) (by simp only [maxLen]; omega) (by omega) (by simp; omega) ?_)); intro v7 w7 ha7)
      have hrow7 := hrow4.app (x := ⟨(Z : Nat), A4, c4, D⟩) ⟨hid, hR4⟩ hxf ha7
      clear hR4 hrow4 ha7 hxf
      go_roundw
      case rel =>
        first
          | exact ⟨i + 1 + (Y + 1), E ++ [⟨(Z : Nat), A4, c4, D⟩], _, by go_num, hfit, by simp; omega, hdxh.out, hto2, hrow7⟩
          | ((repeat apply Exists.intro); exact ⟨⟨i + 1 + (Y + 1), E ++ [⟨(Z : Nat), A4, c4, D⟩], _, by go_num, hfit, by simp; omega, hdxh.out, hto2, hrow7⟩, rfl⟩)
      case measure => simp [intOf]; omega
  · go_wp2_with fail
    go_loopw [6, 7, 8, 9, 10, 11, 12] (fun v a _ _ _ _ _ wr => ∃ (i : Nat) (E : List El) (acc : List (Int × List UInt8)), a = .int .i64 (i : Int) ∧ i ≤ n ∧ E.length ≤ i ∧ E.map El.dat = acc ∧ RdTo false l i acc ∧ RowE w wr v E) (fun _ a _ _ _ _ _ _ => n - (intOf a).toNat)
    case atStart => exact ⟨0, [], [], rfl, by omega, by simp, rfl, RdTo.start _ _, RowE.nil (Below.refl _ _)⟩
    case round =>
      obtain ⟨i, E, acc, rfl, hi, hEi, hdat, hto, hrow⟩ := hrel
      by_cases hlt : i < n
      rotate_left
      · have hE0 : rdA false (l.drop i) = some [] := rd_past (by rw [hln.out]; omega) _
        have g1 : ¬ (i : Int) < (n : Int) := by omega
        have hdone : rdA false l = some acc := hto.done hE0
        obtain ⟨AE, cE, hvE, hRE⟩ := hrow.own.re hrow.els
        have hbE := hrow.below
        have hle : acc.length = E.length := by rw [← hdat, List.length_map]
        by_cases h8 : 8 < E.length
        · have hno := ReadOut.no (errR_long (prof := 4096) (by decide) hdone (by omega)) hbE
          have g8 : (8 : Int) < (E.length : Int) := by omega
          clear hdone hdat hto hE0 hrow hle
          subst hvE
          go_wp2_with fail
          go_ret2
          exact hno
        · have hyes := ReadOut.yes (errR_ok (prof := 4096) (by decide) (show rdA (isOne 4096) l = some (E.map El.dat) from hdone.trans (by rw [hdat])) (by rw [List.length_map]; exact h8)) hRE hbE
          have g8 : ¬ (8 : Int) < (E.length : Int) := by omega
          clear hdone hdat hto hE0 hrow hle
          subst hvE
          go_wp2_with fail
          go_ret2
          exact hyes
      have g1 : (i : Int) < (n : Int) := by omega
      have hil : i < l.length := by rw [hln.out]; exact hlt
      have hr := h.on hrow.below
      have hbt := bt_lt l i
      obtain ⟨b, off, hA, hbl, hcell⟩ := hr.2.2 (by omega)
      have c0 : wr.cell? ⟨b, off + i, none⟩ = some (.int .u8 (bt l i : Int)) := hcell i hlt
      have c1' := fun (h1 : i + 1 < n) => hcell (i + 1) h1
      clear hcell hr
      by_cases hz : bt l i = 0
      · have hto2 := hto.same (rd_zero hil _ hz)
        rw [hz] at c0
        clear hz hbt hto c1'
        subst hA
        go_wp2_with fail
        go_roundw
        case rel => exact ⟨i + 1, E, acc, by go_num, by omega, by omega, hdat, hto2, hrow⟩
        case measure => simp [intOf]; omega
      have gz : ((bt l i : Int) == 0) = false := by simp; omega
      have e2 := andF (bt l i) hbt
      have hz' := Lib.hid hz
      have hilh := Lib.hid hil
      obtain ⟨X, hX⟩ : ∃ X, bt l i = X := ⟨_, rfl⟩
      rw [hX] at c0 hbt gz e2
      have hXh := Lib.hid hX
      obtain ⟨Y, hY⟩ : ∃ Y, X % 16 = Y := ⟨_, rfl⟩
      obtain ⟨Z, hZ⟩ : ∃ Z, X / 16 = Z := ⟨_, rfl⟩
      have hY9 : Y < 16 := by omega
      have hZ9 : Z < 16 := by omega
      rw [hY] at e2
      have e3 : (X : Int) / 16 = Z := by omega
      have u0 : IntKind.i64.wrap (Z : Int) = Z := by rw [IntKind.wrap_i64]; omega
      have u1 : IntKind.i64.wrap (Y : Int) = Y := by rw [IntKind.wrap_i64]; omega
      have u2 : IntKind.i64.wrap ((Y : Int) + 1) = (Y : Int) + 1 := by rw [IntKind.wrap_i64]; omega
      have u3 : IntKind.i64.wrap ((i : Int) + 1) = (i : Int) + 1 := by rw [IntKind.wrap_i64]; omega
      have hYh := Lib.hid hY
      have hZh := Lib.hid hZ
      clear hX hY hZ hz hil
      subst hA
      go_upto_region 8 with (fail)
      go_quiet (fail)
      have hrowQ := hrow.on (below_drewN wr.heap.size wr nq)
      have c0Q : (wr.drewN nq).cell? ⟨b, off + i, none⟩ = some (.int .u8 (X : Int)) := c0
      have c1Q : i + 1 < n → (wr.drewN nq).cell? ⟨b, off + (i + 1), none⟩ = some (.int .u8 (bt l (i + 1) : Int)) := c1'
      clear hrow c0 c1' e2 e3 u0 u1 u2 u3
      revert hrowQ c0Q c1Q
      generalize wr.drewN nq = W
      intro hrow c0Q c1Q
      by_cases h1 : i + 1 < n
      rotate_left
      · have hnone := hto.none (rd_two_no hilh.out hz'.out (fun h1' => absurd (by rw [← hln.out]; exact h1') h1))
        have hno := fun w' hb => ReadOut.no (w := w) (w' := w') (errR_short (prof := 4096) (by decide) hnone) hb
        have hbr := hrow.below
        have q1 : (n : Int) ≤ (i : Int) + 1 := by omega
        clear hnone hto hrow c0Q c1Q
        go_wp2_with fail
        go_ret2
        exact hno _ hbr
      have h1l : Hid (i + 1 < l.length) := Lib.hid (by rw [hln.out]; exact h1)
      have c1 := c1Q h1
      have hbt1 := bt_lt l (i + 1)
      obtain ⟨M, hM⟩ : ∃ M, bt l (i + 1) = M := ⟨_, rfl⟩
      rw [hM] at c1 hbt1
      have hMh := Lib.hid hM
      have q1 : ¬ (n : Int) ≤ (i : Int) + 1 := by omega
      have q3 : (i : Int) + 1 < (n : Int) := by omega
      have q4 : ((i : Int) + 1).toNat = i + 1 := by omega
      have u0 : IntKind.i64.wrap (X : Int) = X := by rw [IntKind.wrap_i64]; omega
      have u1 : IntKind.i64.wrap (M : Int) = M := by rw [IntKind.wrap_i64]; omega
      have u2 : IntKind.i64.wrap ((i : Int) + 2) = (i : Int) + 2 := by rw [IntKind.wrap_i64]; omega
      have u3 : IntKind.i64.wrap ((i : Int) + 1) = (i : Int) + 1 := by rw [IntKind.wrap_i64]; omega
      clear hM c1Q
      go_upto_region 13 with (fail)
      go_quiet (fail)
      have hrowQ := hrow.on (below_drewN W.heap.size W nq)
      revert hrowQ
      generalize W.drewN nq = V
      intro hrowV
      clear hrow c0Q c1 u0 u1 u2 u3
      have hrow := hrowV
      clear hrowV
      by_cases hfit : i + 2 + M ≤ n
      rotate_left
      · have hnone := hto.none (rd_two_no hilh.out hz'.out (fun _ => by rw [hMh.out, hln.out]; exact hfit))
        have hno := fun w' hb => ReadOut.no (w := w) (w' := w') (errR_short (prof := 4096) (by decide) hnone) hb
        have hct := fun W => ref_cut_no (some ⟨b, off, none⟩) n c W (by omega) ((i : Int) + 2) (M : Int) (by unfold I64; omega) (by simp [thB]; omega)
        have hbr := hrow.below
        clear hnone hto hrow hfit
        go_wp2_with fail
        refine (hct _).mono ?_
        rintro e w3 ⟨rfl, rfl⟩
        go_wp2_with fail
        go_ret2
        exact hno _ hbr
      have hto2 := hto.more (rd_two hilh.out hz'.out h1l.out (by rw [hMh.out, hln.out]; exact hfit))
      have hct := fun W hW => ref_cut_new (some ⟨b, off, none⟩) n c l W (h.on hW) (by omega) (i + 2) M hfit
      have hdl : ((l.drop (i + 2)).take M).length ≤ 256 := by simp; omega
      rw [hMh.out, hXh.out] at hto2
      rw [show ((i + 2 : Nat) : Int) = (i : Int) + 2 by omega] at hct
      obtain ⟨D, hD⟩ : ∃ D, (l.drop (i + 2)).take M = D := ⟨_, rfl⟩
      rw [hD] at hct hdl hto2
      have hid : I64 ((X : Nat) : Int) := by unfold I64; omega
      clear hD hMh q1 q3 q4
      have hvb := hrow.blk
      go_wp2_with fail
      refine (hct _ hrow.below).mono ?_
      rintro e w4 ⟨A4, c4, rfl, hR4, hb4, hA4⟩
      have hrow4 := hrow.on hb4
      have hxf : ∀ ad, A4 = some ad → Value.ownBlock u6 ≠ some ad.block ∧ ad.block < w4.heap.size ∧ w.heap.size ≤ ad.block := fun ad e => ⟨fun e' => by
        have h1 := hvb _ e'
        have h2 := (hA4 ad e).1
        omega, (hA4 ad e).2, by have h2 := (hA4 ad e).1; have h3 := hrow.below.size; omega⟩
      clear hct hvb hA4 hb4 hrow
      have hdxh := Lib.hid (show (E ++ [(⟨(X : Nat), A4, c4, D⟩ : El)]).map El.dat = acc ++ [(((X : Nat) : Int), D)] by rw [← hdat]; simp [El.dat])
      clear hdat
      obtain ⟨AE, cE, hvE, hRE⟩ := hrow4.own.re hrow4.els
      subst hvE
      clear hRE
      have hsz4 := hrow4.below.size
      go_wp2_with (at_builtin; (go_loud (with_reducible refine wpList_appendG rfl (.tmp 84) (.tmp 88) 44 44 51 rfl rfl _ 2 32 Try.underlying44 elem_info rfl (by decide) w.heap.size (.slice AE E.length cE) E.length (cellsE E) (by with_unfolding_all rfl) (by with_unfolding_all exact OwnE.alloc hrow4.own _) _ 1 1 (cellsE [⟨(X : Nat), A4, c4, D⟩]) rfl rfl (by with_unfolding_all exact one_elem w4 ⟨(X : Nat), A4, c4, D⟩) (one_elem_cells _) (by simp only [maxLen]; omega) (by omega) (by simp; omega) ?_)); intro v7 w7 ha7)
      have hrow7 := hrow4.app (x := ⟨(X : Nat), A4, c4, D⟩) ⟨hid, hR4⟩ hxf ha7
      clear hR4 hrow4 ha7 hxf
      go_roundw
      case rel =>
        first
          | exact ⟨i + 2 + M, E ++ [⟨(X : Nat), A4, c4, D⟩], _, by go_num, hfit, by simp; omega, hdxh.out, hto2, hrow7⟩
          | ((repeat apply Exists.intro); exact ⟨⟨i + 2 + M, E ++ [⟨(X : Nat), A4, c4, D⟩], _, by go_num, hfit, by simp; omega, hdxh.out, hto2, hrow7⟩, rfl⟩)
      case measure => simp [intOf]; omega
end Go.Proofs.Ytpcdmcaojgpfoaa.RP
