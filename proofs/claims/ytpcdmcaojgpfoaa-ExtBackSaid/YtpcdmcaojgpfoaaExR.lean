/- Contract: ext.Read. -/
import Derived.Test.YtpcdmcaojgpfoaaExD
import Derived.Test.YtpcdmcaojgpfoaaCTapeE
namespace Go.Proofs.Ytpcdmcaojgpfoaa.RP
open Go.RowKit
set_option linter.unusedVariables false
set_option linter.unusedSimpArgs false
set_option maxRecDepth 20000

theorem OwnE.keepB {a b : World} {B : Nat} {v : Value} {E : List El} (h : OwnE a B v E) (hb : Below a.heap.size a b) : OwnE b B v E :=
  World.ownsRow.kept (row := none) h ⟨hb.os, hb.tape, hb.output, hb.size, fun k hk _ => hb.block k hk⟩ (by cases hv : v.ownBlock <;> simp)
/-- A row of elements that the call owns, since world w. -/
structure RowE (w wr : World) (v : Value) (E : List El) : Prop where
  own : OwnE wr w.heap.size v E
  els : Els wr wr.heap.size E
  far : Far v E
  low : ∀ x ∈ E, ∀ ad, x.A = some ad → ad.block < wr.heap.size
  yng : ∀ x ∈ E, ∀ ad, x.A = some ad → w.heap.size ≤ ad.block
  below : Below w.heap.size w wr
theorem RowE.nil {w wr : World} (h : Below w.heap.size w wr) : RowE w wr (.slice none 0 0) [] := ⟨OwnE.nil _ _, by simp [Els], by simp [Far], by simp, by simp, h⟩
theorem RowE.on {w a b : World} {v : Value} {E : List El} (h : RowE w a v E) (hb : Below a.heap.size a b) : RowE w b v E :=
  ⟨OwnE.keepB h.own hb, h.els.on hb, h.far, fun x hx ad e => by have := h.low x hx ad e; have := hb.size; omega, h.yng, h.below.trans (hb.mono h.below.size)⟩
theorem RowE.blk {w wr : World} {v : Value} {E : List El} (h : RowE w wr v E) : ∀ b, v.ownBlock = some b → b < wr.heap.size := fun b hb => (World.ownsRow.lt h.own b hb).2
theorem RowE.app {w a w' : World} {v v' : Value} {E : List El} {x : El} (h : RowE w a v E) (hx : I64 x.id ∧ R8 a a.heap.size x.A x.d.length x.c x.d) (hf : ∀ ad, x.A = some ad → v.ownBlock ≠ some ad.block ∧ ad.block < a.heap.size ∧ w.heap.size ≤ ad.block)
    (ha : AppG (a.alloc (.cells #[.int .i64 x.id, .slice x.A x.d.length x.c] 51)) w.heap.size 51 2 v (E.length + 1) (cellsE E ++ cellsE [x]) v' w') : RowE w w' v' (E ++ [x]) := by
  have hal := (Below.refl a.heap.size a).alloc (Nat.le_refl _) (.cells #[.int .i64 x.id, .slice x.A x.d.length x.c] 51)
  have hfx : Far v [x] := fun e he ad hA => by
    rw [List.mem_singleton.1 he] at hA
    exact (hf ad hA).1
  have hlo : ∀ e ∈ E ++ [x], ∀ ad, e.A = some ad → ad.block < a.heap.size := fun e he ad hA => by
    rcases List.mem_append.1 he with he | he
    · exact h.low e he ad hA
    · rw [List.mem_singleton.1 he] at hA
      exact (hf ad hA).2.1
  obtain ⟨p1, p2, p3⟩ := OwnE.app (h.els.on hal) h.far ⟨hx.1, hx.2.on hal⟩ hfx (fun e he ad hA => by have := hlo e he ad hA; simp; omega) ha
  have hb7 : Below w.heap.size a w' := AppG.below ha ((Below.refl w.heap.size a).alloc h.below.size _) (by have := h.below.size; simp; omega) (World.ownsRow.alloc h.own _) (Nat.le_refl _)
  exact ⟨p1, p2, p3, fun e he ad hA => by have := hlo e he ad hA; have := hb7.size; omega, fun e he ad hA => by
    rcases List.mem_append.1 he with he | he
    · exact h.yng e he ad hA
    · rw [List.mem_singleton.1 he] at hA
      exact (hf ad hA).2.2, h.below.trans hb7⟩
/-- What Read answers. -/
def ReadOut (prof : Nat) (l : List UInt8) (w : World) (e : Ending) (w' : World) : Prop :=
  ∃ A c E, e = .returned (.tuple #[.slice A E.length c, .int .i64 (errR prof l)]) ∧ E.map El.dat = outR prof l ∧ RE w' w'.heap.size A E.length c E ∧ Below w.heap.size w w'
theorem ReadOut.no {prof : Nat} {l : List UInt8} {w w' : World} {k : Int} (h : errR prof l = k ∧ outR prof l = []) (hb : Below w.heap.size w w') : ReadOut prof l w (.returned (.tuple #[.slice none 0 0, .int .i64 k])) w' :=
  ⟨none, 0, [], by rw [h.1]; rfl, by rw [h.2]; rfl, RE.nil _ _ _ _, hb⟩
theorem ReadOut.yes {prof : Nat} {l : List UInt8} {w w' : World} {A : Option Addr} {c : Nat} {E : List El} (h : errR prof l = 0 ∧ outR prof l = E.map El.dat) (hr : RE w' w'.heap.size A E.length c E) (hb : Below w.heap.size w w') :
    ReadOut prof l w (.returned (.tuple #[.slice A E.length c, .int .i64 0])) w' := ⟨A, c, E, by rw [h.1], h.2.symm, hr, hb⟩
/-- As ReadOut; what is answered lies in new memory. -/
def ReadNew (prof : Nat) (l : List UInt8) (w : World) (e : Ending) (w' : World) : Prop :=
  ∃ A c E, e = .returned (.tuple #[.slice A E.length c, .int .i64 (errR prof l)]) ∧ E.map El.dat = outR prof l ∧ RE w' w'.heap.size A E.length c E ∧ Below w.heap.size w w' ∧ (∀ ad, A = some ad → w.heap.size ≤ ad.block) ∧ ∀ x ∈ E, ∀ ad, x.A = some ad → w.heap.size ≤ ad.block
theorem ReadNew.no {prof : Nat} {l : List UInt8} {w w' : World} {k : Int} (h : errR prof l = k ∧ outR prof l = []) (hb : Below w.heap.size w w') : ReadNew prof l w (.returned (.tuple #[.slice none 0 0, .int .i64 k])) w' :=
  ⟨none, 0, [], by rw [h.1]; rfl, by rw [h.2]; rfl, RE.nil _ _ _ _, hb, fun ad h => (by cases h), by simp⟩
theorem ReadNew.yes {prof : Nat} {l : List UInt8} {w w' : World} {v : Value} {A : Option Addr} {c : Nat} {E : List El} (h : errR prof l = 0 ∧ outR prof l = E.map El.dat) (hr : RE w' w'.heap.size A E.length c E) (hrow : RowE w w' v E) (hv : v = .slice A E.length c) :
    ReadNew prof l w (.returned (.tuple #[.slice A E.length c, .int .i64 0])) w' := ⟨A, c, E, by rw [h.1], h.2.symm, hr, hrow.below, fun ad e => (own_block (hv ▸ hrow.own) ad e).1, hrow.yng⟩
theorem end_zero (one : Bool) : endB one 0 = false := by cases one <;> rfl
theorem take9_len {α : Type} {E acc : List α} (h : E = acc.take 9) : (8 < E.length ↔ 8 < acc.length) ∧ (¬ 8 < E.length → E = acc) := by
  subst h
  rw [List.length_take]
  refine ⟨by omega, fun h => List.take_of_length_le (by omega)⟩
set_option maxHeartbeats 8000000 in
theorem ext_read_new (prof : Nat) (A : Option Addr) (n c : Nat) (l : List UInt8) (w : World) (h : R8 w w.heap.size A n c l) (hn : n ≤ 4000000) :
    Calls Try.prog 25 #[.int .u16 (prof : Int), .slice A n c] w (ReadNew prof l w) := by
  have hln := Lib.hid h.1
  go_enter Try.func25, Try.ntmps25
  by_cases hp1 : prof ≠ 48862 ∧ prof ≠ 4096
  · have hno := ReadNew.no (errR_other (l := l) hp1) (Below.refl w.heap.size w)
    have hk := known_none prof hp1
    clear hp1
    go_wp2_with fail
    refine (hk _).mono ?_
    rintro e w' ⟨rfl, rfl⟩
    go_wp2_with fail
    go_ret2
    exact hno
  have hpp : prof = 48862 ∨ prof = 4096 := by omega
  clear hp1
  rcases hpp with rfl | rfl
  · go_wp2_with (go_at_call 45; refine (known_one _).mono ?_; rintro e w' ⟨rfl, rfl⟩)
    go_loopw [6, 7, 8, 9, 10] (fun v a _ _ _ wr => ∃ (i : Nat) (E : List El) (acc : List (Int × List UInt8)), a = .int .i64 (i : Int) ∧ i ≤ n ∧ E.map El.dat = acc.take 9 ∧ RdTo true l i acc ∧ RowE w wr v E) (fun _ a _ _ _ _ => n - (intOf a).toNat)
    case atStart => exact ⟨0, [], [], rfl, by omega, by simp, RdTo.start _ _, RowE.nil (Below.refl _ _)⟩
    case round =>
      obtain ⟨i, E, acc, rfl, hi, hdat, hto, hrow⟩ := hrel
      by_cases hlt : i < n
      rotate_left
      · have hE0 : rdA true (l.drop i) = some [] := rd_past (by rw [hln.out]; omega) _
        have g1 : ¬ (i : Int) < (n : Int) := by omega
        have hdone : rdA true l = some acc := hto.done hE0
        obtain ⟨t1, t2⟩ := take9_len hdat
        rw [List.length_map] at t1 t2
        obtain ⟨AE, cE, hvE, hRE⟩ := hrow.own.re hrow.els
        have hbE := hrow.below
        by_cases h8 : 8 < E.length
        · have hno := ReadNew.no (errR_long (prof := 48862) (by decide) hdone (t1.1 h8)) hbE
          have g8 : (8 : Int) < (E.length : Int) := by omega
          clear hdone t1 t2 hdat hto hE0 hrow
          subst hvE
          go_wp2_with fail
          go_ret2
          exact hno
        · have hyes := ReadNew.yes (errR_ok (prof := 48862) (by decide) (show rdA (isOne 48862) l = some (E.map El.dat) from hdone.trans (by rw [t2 h8])) (by rw [List.length_map]; exact h8)) hRE hrow hvE
          have g8 : ¬ (8 : Int) < (E.length : Int) := by omega
          clear hdone t1 t2 hdat hto hE0 hrow
          subst hvE
          go_wp2_with fail
          go_ret2
          exact hyes
      have g1 : (i : Int) < (n : Int) := by omega
      have hil : i < l.length := by rw [hln.out]; exact hlt
      have hr := h.on hrow.below
      have hbt := bt_lt l i
      obtain ⟨b, off, hA, hbl, hcell⟩ := hr.2.2 (by omega)
      have c0 : wr.cell? ⟨b, off + i, none⟩ = some (.int .u8 (bt l i : Int)) := hcell i hlt
      clear hcell
      have hrh := Lib.hid hr
      clear hr
      by_cases hend : endB true (bt l i) = true
      · have hz : bt l i ≠ 0 := fun h0 => by rw [h0, end_zero] at hend; cases hend
        have hE0 := rd_end hil hz hend
        have hen := fun W => ends_one (bt l i) hbt W
        rw [hend] at hen
        clear hz hend hrh
        subst hA
        generalize bt l i = X at hen c0
        have hdone : rdA true l = some acc := hto.done hE0
        obtain ⟨t1, t2⟩ := take9_len hdat
        rw [List.length_map] at t1 t2
        obtain ⟨AE, cE, hvE, hRE⟩ := hrow.own.re hrow.els
        have hbE := hrow.below
        by_cases h8 : 8 < E.length
        · have hno := ReadNew.no (errR_long (prof := 48862) (by decide) hdone (t1.1 h8)) hbE
          have g8 : (8 : Int) < (E.length : Int) := by omega
          clear hdone t1 t2 hdat hto hE0 hrow
          subst hvE
          go_wp2_with (go_at_call 50; refine (hen _).mono ?_; rintro e w' ⟨rfl, rfl⟩)
          go_ret2
          exact hno
        · have hyes := ReadNew.yes (errR_ok (prof := 48862) (by decide) (show rdA (isOne 48862) l = some (E.map El.dat) from hdone.trans (by rw [t2 h8])) (by rw [List.length_map]; exact h8)) hRE hrow hvE
          have g8 : ¬ (8 : Int) < (E.length : Int) := by omega
          clear hdone t1 t2 hdat hto hE0 hrow
          subst hvE
          go_wp2_with (go_at_call 50; refine (hen _).mono ?_; rintro e w' ⟨rfl, rfl⟩)
          go_ret2
          exact hyes
      have hend' : endB true (bt l i) = false := by simpa using hend
      have hen := fun W => ends_one (bt l i) hbt W
      rw [hend'] at hen
      by_cases hz : bt l i = 0
      · have hto2 := hto.same (rd_zero hil _ hz)
        rw [hz] at c0 hen
        clear hend hend' hrh hz hbt hto
        subst hA
        go_wp2_with (go_at_call 50; refine (hen _).mono ?_; rintro e w' ⟨rfl, rfl⟩)
        go_roundw
        case rel => exact ⟨i + 1, E, acc, by go_num, by omega, hdat, hto2, hrow⟩
        case measure => simp [intOf]; omega
      have gz : ((bt l i : Int) == 0) = false := by simp; omega
      have hhd := fun W hW => hd_one A n c l W (h.on hW) (by omega) i hlt
      have hmm : (bt l i % 16 + 1) ≤ 256 := by omega
      by_cases hfit : (i + 1) + (bt l i % 16 + 1) ≤ n
      rotate_left
      · have hnone := hto.none (rd_one_no hil hz hend' (by rw [hln.out]; exact hfit))
        have hno := fun w' hb => ReadNew.no (w := w) (w' := w') (errR_short (prof := 48862) (by decide) hnone) hb
        have hct := fun W => cut_no A n c W (by omega) ((i + 1) : Nat) ((bt l i % 16 + 1) : Nat) (by unfold I64; omega) (by simp [thB]; omega)
        have hbr := hrow.below
        clear hend hend' hnone hto hrow hrh hmm hfit
        subst hA
        obtain ⟨X, hX⟩ : ∃ X, bt l i = X := ⟨_, rfl⟩
        rw [hX] at hen c0 gz hbt hz hhd hct
        clear hX hz
        generalize X % 16 + 1 = M at hhd hct
        generalize X / 16 = Z at hhd
        go_wp2_with (go_at_call 50; refine (hen _).mono ?_; rintro e w' ⟨rfl, rfl⟩)
        refine (hhd _ hbr).mono ?_
        rintro e w2 ⟨rfl, hb2⟩
        have hbr2 := hbr.trans (hb2.mono hbr.size)
        clear hen c0 hhd hb2 hbr
        go_wp2_with fail
        refine (hct _).mono ?_
        rintro e w3 ⟨rfl, rfl⟩
        go_wp2_with fail
        go_ret2
        exact hno _ (hbr2.alloc hbr2.size _)
      have hto2 := hto.more (rd_one hil hz hend' (by rw [hln.out]; exact hfit))
      have hct := fun W hW => cut_new A n c l W (h.on hW) (by omega) (i + 1) (bt l i % 16 + 1) hfit
      have hid : I64 (((bt l i / 16) : Nat) : Int) := by unfold I64; omega
      have hdl : ((l.drop (i + 1)).take (bt l i % 16 + 1)).length ≤ 256 := by simp; omega
      clear hend hend' hto hrh
      subst hA
      obtain ⟨X, hX⟩ : ∃ X, bt l i = X := ⟨_, rfl⟩
      rw [hX] at hen c0 gz hbt hz hhd hct hid hdl hto2 hfit hmm
      clear hX hz
      generalize X % 16 + 1 = M at hhd hct hdl hto2 hfit hmm
      generalize X / 16 = Z at hhd hid hto2
      rw [show ((i + 1 : Nat) : Int) = (i : Int) + 1 by omega] at hct
      obtain ⟨D, hD⟩ : ∃ D, (l.drop (i + 1)).take M = D := ⟨_, rfl⟩
      rw [hD] at hct hdl hto2
      clear hD
      go_wp2_with (go_at_call 50; refine (hen _).mono ?_; rintro e w' ⟨rfl, rfl⟩)
      refine (hhd _ hrow.below).mono ?_
      rintro e w2 ⟨rfl, hb2⟩
      have hrow2 := hrow.on hb2
      have hvb : ∀ b, Value.ownBlock u6 = some b → b < w2.heap.size := hrow2.blk
      clear hen c0 hhd hb2 hrow
      have hblk : Blk (w2.alloc (.cells #[.int .i64 (Z : Int), .int .i64 ((i : Int) + 1), .int .i64 (M : Int)] 81)) w2.heap.size 81 #[.int .i64 (Z : Int), .int .i64 ((i : Int) + 1), .int .i64 (M : Int)] := Blk.new _ _ _
      have hal : Below w2.heap.size w2 (w2.alloc (.cells #[.int .i64 (Z : Int), .int .i64 ((i : Int) + 1), .int .i64 (M : Int)] 81)) := (Below.refl _ w2).alloc (Nat.le_refl _) _
      have hrow3 := hrow2.on hal
      have hL3 := hblk.lt
      clear hrow2 hal
      go_wp2_with fail
      revert hblk hrow3 hL3
      generalize w2.alloc (.cells #[.int .i64 (Z : Int), .int .i64 ((i : Int) + 1), .int .i64 (M : Int)] 81) = W
      revert hvb
      generalize w2.heap.size = L
      intro hvb hblk hrow3 hL3
      refine (hct _ hrow3.below).mono ?_
      rintro e w4 ⟨A4, c4, rfl, hR4, hb4, hA4⟩
      have hrow4 := hrow3.on hb4
      have hblk4 : Blk w4 L 81 #[.int .i64 (Z : Int), .int .i64 ((i : Int) + 1), .int .i64 (M : Int)] := (hb4.block L hL3).trans hblk
      have k0 := hblk4.cell 0
      have k1 := hblk4.cell 1
      have k2 := hblk4.cell 2
      simp at k0 k1 k2
      have hL4 := hblk4.lt
      have hxf : ∀ ad, A4 = some ad → Value.ownBlock u6 ≠ some ad.block ∧ ad.block < w4.heap.size ∧ w.heap.size ≤ ad.block := fun ad e => ⟨fun e' => by
        have h1 := hvb _ e'
        have h2 := (hA4 ad e).1
        omega, (hA4 ad e).2, by have h2 := (hA4 ad e).1; have h3 := hrow3.below.size; omega⟩
      have hLb : Value.ownBlock u6 ≠ some L := fun e' => by have := hvb _ e'; omega
      clear hct hvb hblk hrow3 hA4 hb4
      have hdx : (E ++ [(⟨(Z : Nat), A4, c4, D⟩ : El)]).map El.dat = E.map El.dat ++ [(((Z : Nat) : Int), D)] := by simp [El.dat]
      have hdxh := Lib.hid hdx
      clear hdx
      have hdath := Lib.hid hdat
      obtain ⟨t1, t2⟩ := take9_len hdat
      rw [List.length_map] at t1 t2
      clear hdat
      obtain ⟨AE, cE, hvE, hRE⟩ := hrow4.own.re hrow4.els
      subst hvE
      clear hRE
      by_cases h9 : E.length ≤ 8
      · have g9 : (E.length : Int) ≤ 8 := by omega
        have hacc := Lib.hid (t2 (by omega))
        have hsz4 := hrow4.below.size
        clear t1 t2
        go_upto_region 16 with (at_builtin; (go_loud (with_reducible refine wpList_appendG rfl (.tmp 57) (.tmp 62) 44 44 51 rfl rfl _ 2 32 Try.underlying44 elem_info rfl (by decide) w.heap.size (.slice AE E.length cE) E.length (cellsE E) (by with_unfolding_all rfl) (by with_unfolding_all exact OwnE.alloc hrow4.own _) _ 1 1 (cellsE [⟨(Z : Nat), A4, c4, D⟩]) rfl rfl (by with_unfolding_all exact one_elem w4 ⟨(Z : Nat), A4, c4, D⟩) (one_elem_cells _) (by simp only [maxLen]; omega) (by omega) (by simp; omega) ?_)); intro v7 w7 ha7)
        have hrow7 := hrow4.app (x := ⟨(Z : Nat), A4, c4, D⟩) ⟨hid, hR4⟩ hxf ha7
        have hblk7 : Blk w7 L 81 #[.int .i64 (Z : Int), .int .i64 ((i : Int) + 1), .int .i64 (M : Int)] := by
          unfold Blk
          rw [ha7.2.1.block L (by simp; omega) (fun e => hLb e.symm)]
          exact (((Below.refl w4.heap.size w4).alloc (Nat.le_refl _) _).block L hL4).trans hblk4
        clear k0 k1 k2 hblk4 hL4 hLb hxf hR4 hrow4 ha7
        have k1 := hblk7.cell 1
        have k2 := hblk7.cell 2
        simp at k1 k2
        have hx64 : I64 ((i : Int) + 1 + (M : Int)) := by unfold I64; omega
        go_wp2_with fail
        go_roundw
        case rel =>
          refine ⟨i + 1 + M, E ++ [⟨(Z : Nat), A4, c4, D⟩], _, by go_num, hfit, ?_, hto2, hrow7⟩
          rw [hdxh.out, ← hacc.out, List.take_of_length_le (by simp; omega)]
        case measure => simp [intOf]; omega
      · have g9 : ¬ (E.length : Int) ≤ 8 := by omega
        have hacc : 8 < acc.length := t1.1 (by omega)
        clear t1 t2 k0 hblk4 hLb hxf hR4
        go_wp2_with fail
        go_roundw
        case rel =>
          refine ⟨i + 1 + M, E, _, by go_num, hfit, ?_, hto2, hrow4⟩
          rw [hdath.out, List.take_append_of_le_length (by omega)]
        case measure => simp [intOf]; omega
  · go_wp2_with (go_at_call 45; refine (known_two _).mono ?_; rintro e w' ⟨rfl, rfl⟩)
    go_loopw [6, 7, 8, 9, 10] (fun v a _ _ _ wr => ∃ (i : Nat) (E : List El) (acc : List (Int × List UInt8)), a = .int .i64 (i : Int) ∧ i ≤ n ∧ E.map El.dat = acc.take 9 ∧ RdTo false l i acc ∧ RowE w wr v E) (fun _ a _ _ _ _ => n - (intOf a).toNat)
    case atStart => exact ⟨0, [], [], rfl, by omega, by simp, RdTo.start _ _, RowE.nil (Below.refl _ _)⟩
    case round =>
      obtain ⟨i, E, acc, rfl, hi, hdat, hto, hrow⟩ := hrel
      by_cases hlt : i < n
      rotate_left
      · have hE0 : rdA false (l.drop i) = some [] := rd_past (by rw [hln.out]; omega) _
        have g1 : ¬ (i : Int) < (n : Int) := by omega
        have hdone : rdA false l = some acc := hto.done hE0
        obtain ⟨t1, t2⟩ := take9_len hdat
        rw [List.length_map] at t1 t2
        obtain ⟨AE, cE, hvE, hRE⟩ := hrow.own.re hrow.els
        have hbE := hrow.below
        by_cases h8 : 8 < E.length
        · have hno := ReadNew.no (errR_long (prof := 4096) (by decide) hdone (t1.1 h8)) hbE
          have g8 : (8 : Int) < (E.length : Int) := by omega
          clear hdone t1 t2 hdat hto hE0 hrow
          subst hvE
          go_wp2_with fail
          go_ret2
          exact hno
        · have hyes := ReadNew.yes (errR_ok (prof := 4096) (by decide) (show rdA (isOne 4096) l = some (E.map El.dat) from hdone.trans (by rw [t2 h8])) (by rw [List.length_map]; exact h8)) hRE hrow hvE
          have g8 : ¬ (8 : Int) < (E.length : Int) := by omega
          clear hdone t1 t2 hdat hto hE0 hrow
          subst hvE
          go_wp2_with fail
          go_ret2
          exact hyes
      have g1 : (i : Int) < (n : Int) := by omega
      have hil : i < l.length := by rw [hln.out]; exact hlt
      have hr := h.on hrow.below
      have hbt := bt_lt l i
      obtain ⟨b, off, hA, hbl, hcell⟩ := hr.2.2 (by omega)
      have c0 : wr.cell? ⟨b, off + i, none⟩ = some (.int .u8 (bt l i : Int)) := hcell i hlt
      clear hcell
      have hrh := Lib.hid hr
      clear hr
      by_cases hend : endB false (bt l i) = true
      · have hz : bt l i ≠ 0 := fun h0 => by rw [h0, end_zero] at hend; cases hend
        have hE0 := rd_end hil hz hend
        have hen := fun W => ends_two (bt l i) W
        rw [hend] at hen
        clear hz hend hrh
        subst hA
        generalize bt l i = X at hen c0
        have hdone : rdA false l = some acc := hto.done hE0
        obtain ⟨t1, t2⟩ := take9_len hdat
        rw [List.length_map] at t1 t2
        obtain ⟨AE, cE, hvE, hRE⟩ := hrow.own.re hrow.els
        have hbE := hrow.below
        by_cases h8 : 8 < E.length
        · have hno := ReadNew.no (errR_long (prof := 4096) (by decide) hdone (t1.1 h8)) hbE
          have g8 : (8 : Int) < (E.length : Int) := by omega
          clear hdone t1 t2 hdat hto hE0 hrow
          subst hvE
          go_wp2_with (go_at_call 50; refine (hen _).mono ?_; rintro e w' ⟨rfl, rfl⟩)
          go_ret2
          exact hno
        · have hyes := ReadNew.yes (errR_ok (prof := 4096) (by decide) (show rdA (isOne 4096) l = some (E.map El.dat) from hdone.trans (by rw [t2 h8])) (by rw [List.length_map]; exact h8)) hRE hrow hvE
          have g8 : ¬ (8 : Int) < (E.length : Int) := by omega
          clear hdone t1 t2 hdat hto hE0 hrow
          subst hvE
          go_wp2_with (go_at_call 50; refine (hen _).mono ?_; rintro e w' ⟨rfl, rfl⟩)
          go_ret2
          exact hyes
      have hend' : endB false (bt l i) = false := by simpa using hend
      have hen := fun W => ends_two (bt l i) W
      rw [hend'] at hen
      by_cases hz : bt l i = 0
      · have hto2 := hto.same (rd_zero hil _ hz)
        rw [hz] at c0 hen
        clear hend hend' hrh hz hbt hto
        subst hA
        go_wp2_with (go_at_call 50; refine (hen _).mono ?_; rintro e w' ⟨rfl, rfl⟩)
        go_roundw
        case rel => exact ⟨i + 1, E, acc, by go_num, by omega, hdat, hto2, hrow⟩
        case measure => simp [intOf]; omega
      have gz : ((bt l i : Int) == 0) = false := by simp; omega
      by_cases h1 : i + 1 < n
      rotate_left
      · have hhd := fun W hW => hd_two_no A n c l W (h.on hW) (by omega) i (by omega) hlt
        have hnone := hto.none (rd_two_no hil hz (fun h1' => absurd (by rw [← hln.out]; exact h1') h1))
        have hno := fun w' hb => ReadNew.no (w := w) (w' := w') (errR_short (prof := 4096) (by decide) hnone) hb
        have hbr := hrow.below
        clear hend hend' hnone hto hrow hrh
        subst hA
        generalize bt l i = X at hen c0 gz hbt hz
        clear hz
        go_wp2_with (go_at_call 50; refine (hen _).mono ?_; rintro e w' ⟨rfl, rfl⟩)
        refine (hhd _ hbr).mono ?_
        rintro e w2 ⟨rfl, hb2⟩
        have hbr2 := hbr.trans (hb2.mono hbr.size)
        clear hen c0 hhd hb2 hbr
        go_wp2_with fail
        go_ret2
        exact hno _ (hbr2.alloc hbr2.size _)
      have h1l : i + 1 < l.length := by rw [hln.out]; exact h1
      have hhd := fun W hW => hd_two A n c l W (h.on hW) (by omega) i h1
      have hmm : (bt l (i + 1)) ≤ 256 := by have := bt_lt l (i + 1); omega
      by_cases hfit : (i + 2) + (bt l (i + 1)) ≤ n
      rotate_left
      · have hnone := hto.none (rd_two_no hil hz (fun _ => by rw [hln.out]; exact hfit))
        have hno := fun w' hb => ReadNew.no (w := w) (w' := w') (errR_short (prof := 4096) (by decide) hnone) hb
        have hct := fun W => cut_no A n c W (by omega) ((i + 2) : Nat) ((bt l (i + 1)) : Nat) (by unfold I64; omega) (by simp [thB]; omega)
        have hbr := hrow.below
        clear hend hend' hnone hto hrow hrh hmm hfit
        subst hA
        obtain ⟨X, hX⟩ : ∃ X, bt l i = X := ⟨_, rfl⟩
        rw [hX] at hen c0 gz hbt hz hhd
        clear hX hz
        generalize bt l (i + 1) = M at hhd hct
        go_wp2_with (go_at_call 50; refine (hen _).mono ?_; rintro e w' ⟨rfl, rfl⟩)
        refine (hhd _ hbr).mono ?_
        rintro e w2 ⟨rfl, hb2⟩
        have hbr2 := hbr.trans (hb2.mono hbr.size)
        clear hen c0 hhd hb2 hbr
        go_wp2_with fail
        refine (hct _).mono ?_
        rintro e w3 ⟨rfl, rfl⟩
        go_wp2_with fail
        go_ret2
        exact hno _ (hbr2.alloc hbr2.size _)
      have hto2 := hto.more (rd_two hil hz h1l (by rw [hln.out]; exact hfit))
      have hct := fun W hW => cut_new A n c l W (h.on hW) (by omega) (i + 2) (bt l (i + 1)) hfit
      have hid : I64 (((bt l i) : Nat) : Int) := by unfold I64; omega
      have hdl : ((l.drop (i + 2)).take (bt l (i + 1))).length ≤ 256 := by simp; omega
      clear hend hend' hto hrh
      subst hA
      obtain ⟨X, hX⟩ : ∃ X, bt l i = X := ⟨_, rfl⟩
      rw [hX] at hen c0 gz hbt hz hhd hid hto2
      clear hX hz
      generalize bt l (i + 1) = M at hhd hct hdl hto2 hfit hmm
      rw [show ((i + 2 : Nat) : Int) = (i : Int) + 2 by omega] at hct
      obtain ⟨D, hD⟩ : ∃ D, (l.drop (i + 2)).take M = D := ⟨_, rfl⟩
      rw [hD] at hct hdl hto2
      clear hD
      go_wp2_with (go_at_call 50; refine (hen _).mono ?_; rintro e w' ⟨rfl, rfl⟩)
      refine (hhd _ hrow.below).mono ?_
      rintro e w2 ⟨rfl, hb2⟩
      have hrow2 := hrow.on hb2
      have hvb : ∀ b, Value.ownBlock u6 = some b → b < w2.heap.size := hrow2.blk
      clear hen c0 hhd hb2 hrow
      have hblk : Blk (w2.alloc (.cells #[.int .i64 (X : Int), .int .i64 ((i : Int) + 2), .int .i64 (M : Int)] 81)) w2.heap.size 81 #[.int .i64 (X : Int), .int .i64 ((i : Int) + 2), .int .i64 (M : Int)] := Blk.new _ _ _
      have hal : Below w2.heap.size w2 (w2.alloc (.cells #[.int .i64 (X : Int), .int .i64 ((i : Int) + 2), .int .i64 (M : Int)] 81)) := (Below.refl _ w2).alloc (Nat.le_refl _) _
      have hrow3 := hrow2.on hal
      have hL3 := hblk.lt
      clear hrow2 hal
      go_wp2_with fail
      revert hblk hrow3 hL3
      generalize w2.alloc (.cells #[.int .i64 (X : Int), .int .i64 ((i : Int) + 2), .int .i64 (M : Int)] 81) = W
      revert hvb
      generalize w2.heap.size = L
      intro hvb hblk hrow3 hL3
      refine (hct _ hrow3.below).mono ?_
      rintro e w4 ⟨A4, c4, rfl, hR4, hb4, hA4⟩
      have hrow4 := hrow3.on hb4
      have hblk4 : Blk w4 L 81 #[.int .i64 (X : Int), .int .i64 ((i : Int) + 2), .int .i64 (M : Int)] := (hb4.block L hL3).trans hblk
      have k0 := hblk4.cell 0
      have k1 := hblk4.cell 1
      have k2 := hblk4.cell 2
      simp at k0 k1 k2
      have hL4 := hblk4.lt
      have hxf : ∀ ad, A4 = some ad → Value.ownBlock u6 ≠ some ad.block ∧ ad.block < w4.heap.size ∧ w.heap.size ≤ ad.block := fun ad e => ⟨fun e' => by
        have h1 := hvb _ e'
        have h2 := (hA4 ad e).1
        omega, (hA4 ad e).2, by have h2 := (hA4 ad e).1; have h3 := hrow3.below.size; omega⟩
      have hLb : Value.ownBlock u6 ≠ some L := fun e' => by have := hvb _ e'; omega
      clear hct hvb hblk hrow3 hA4 hb4
      have hdx : (E ++ [(⟨(X : Nat), A4, c4, D⟩ : El)]).map El.dat = E.map El.dat ++ [(((X : Nat) : Int), D)] := by simp [El.dat]
      have hdxh := Lib.hid hdx
      clear hdx
      have hdath := Lib.hid hdat
      obtain ⟨t1, t2⟩ := take9_len hdat
      rw [List.length_map] at t1 t2
      clear hdat
      obtain ⟨AE, cE, hvE, hRE⟩ := hrow4.own.re hrow4.els
      subst hvE
      clear hRE
      by_cases h9 : E.length ≤ 8
      · have g9 : (E.length : Int) ≤ 8 := by omega
        have hacc := Lib.hid (t2 (by omega))
        have hsz4 := hrow4.below.size
        clear t1 t2
        go_upto_region 16 with (at_builtin; (go_loud (with_reducible refine wpList_appendG rfl (.tmp 57) (.tmp 62) 44 44 51 rfl rfl _ 2 32 Try.underlying44 elem_info rfl (by decide) w.heap.size (.slice AE E.length cE) E.length (cellsE E) (by with_unfolding_all rfl) (by with_unfolding_all exact OwnE.alloc hrow4.own _) _ 1 1 (cellsE [⟨(X : Nat), A4, c4, D⟩]) rfl rfl (by with_unfolding_all exact one_elem w4 ⟨(X : Nat), A4, c4, D⟩) (one_elem_cells _) (by simp only [maxLen]; omega) (by omega) (by simp; omega) ?_)); intro v7 w7 ha7)
        have hrow7 := hrow4.app (x := ⟨(X : Nat), A4, c4, D⟩) ⟨hid, hR4⟩ hxf ha7
        have hblk7 : Blk w7 L 81 #[.int .i64 (X : Int), .int .i64 ((i : Int) + 2), .int .i64 (M : Int)] := by
          unfold Blk
          rw [ha7.2.1.block L (by simp; omega) (fun e => hLb e.symm)]
          exact (((Below.refl w4.heap.size w4).alloc (Nat.le_refl _) _).block L hL4).trans hblk4
        clear k0 k1 k2 hblk4 hL4 hLb hxf hR4 hrow4 ha7
        have k1 := hblk7.cell 1
        have k2 := hblk7.cell 2
        simp at k1 k2
        have hx64 : I64 ((i : Int) + 2 + (M : Int)) := by unfold I64; omega
        go_wp2_with fail
        go_roundw
        case rel =>
          refine ⟨i + 2 + M, E ++ [⟨(X : Nat), A4, c4, D⟩], _, by go_num, hfit, ?_, hto2, hrow7⟩
          rw [hdxh.out, ← hacc.out, List.take_of_length_le (by simp; omega)]
        case measure => simp [intOf]; omega
      · have g9 : ¬ (E.length : Int) ≤ 8 := by omega
        have hacc : 8 < acc.length := t1.1 (by omega)
        clear t1 t2 k0 hblk4 hLb hxf hR4
        go_wp2_with fail
        go_roundw
        case rel =>
          refine ⟨i + 2 + M, E, _, by go_num, hfit, ?_, hto2, hrow4⟩
          rw [hdath.out, List.take_append_of_le_length (by omega)]
        case measure => simp [intOf]; omega
theorem ext_read (prof : Nat) (A : Option Addr) (n c : Nat) (l : List UInt8) (w : World) (h : R8 w w.heap.size A n c l) (hn : n ≤ 4000000) :
    Calls Try.prog 25 #[.int .u16 (prof : Int), .slice A n c] w (ReadOut prof l w) :=
  (ext_read_new prof A n c l w h hn).mono fun _ _ ⟨A', c', E, h1, h2, h3, h4, _⟩ => ⟨A', c', E, h1, h2, h3, h4⟩
end Go.Proofs.Ytpcdmcaojgpfoaa.RP
