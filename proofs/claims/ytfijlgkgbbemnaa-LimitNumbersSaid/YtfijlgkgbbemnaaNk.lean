/- Contract of the project's bound: first. Contract of the project's bound: next. -/
import Derived.Test.YtfijlgkgbbemnaaNf
import Derived.Test.YtfijlgkgbbemnaaBdF
import Derived.Deep.RegionHeld3
namespace Go.Proofs.Ytfijlgkgbbemnaa
open Go.RowKit
set_option linter.unusedVariables false
set_option linter.unusedSimpArgs false
set_option maxRecDepth 20000

/-- What is known of a row's first ones: the least of them. -/
def LsS (l : List Ln) (sm : Bool) (a : Ln) : Prop := if sm = true then IsLeast l a else l = [] ∧ a = ⟨0, 0, 0⟩
theorem ls_first {l : List Ln} {a t : Ln} (h : LsS l false a) : LsS (l ++ [t]) true t := by
  have h : l = [] ∧ a = ⟨0, 0, 0⟩ := h
  rw [h.1]
  refine (show IsLeast [t] t from ⟨by simp, fun c hc hf => ?_⟩)
  rw [List.mem_singleton] at hc
  rw [hc] at hf
  unfold fstL at hf
  omega
theorem ls_take {l : List Ln} {a t : Ln} (h : LsS l true a) (ht : fstL t a) : LsS (l ++ [t]) true t :=
  (show IsLeast (l ++ [t]) t from ⟨by simp, least_take (show IsLeast l a from h).2 ht⟩)
theorem ls_stay {l : List Ln} {a t : Ln} (h : LsS l true a) (ht : ¬ fstL t a) : LsS (l ++ [t]) true a :=
  (show IsLeast (l ++ [t]) a from ⟨List.mem_append_left _ (show IsLeast l a from h).1, least_stay (show IsLeast l a from h).2 ht⟩)
theorem held_take {l : List Tup} {q : Nat} (h : q < l.length) : (heldR l).take (q + 1) = (heldR l).take q ++ [holdT l[q]] := by
  unfold heldR
  rw [List.take_succ_eq_append_getElem (by simpa using h), List.getElem_map]
/-- What first answers. -/
def FirstOut (ls : List Ln) (w : World) (e : Ending) (w' : World) : Prop :=
  (∃ (bo br bv : Nat) (sm : Bool), LsS ls sm ⟨bo, br, bv⟩ ∧ (⟨bo, br, bv⟩ : Ln).In ∧ e = .returned (.tuple #[.agg #[.int .u32 (bo : Int), .int .u64 (br : Int), .int .i64 (bv : Int)], .bool sm])) ∧ Below w.heap.size w w'
/-- What stands in memory meanwhile: what is answered, and the best. -/
structure FsW (w0 : World) (g4 g6 : Nat) (b : Ln) (W : World) : Prop where
  below : Below w0.heap.size w0 W
  a4 : Blk W g4 31 #[.int .u32 0, .int .u64 0, .int .i64 0]
  a6 : Blk W g6 31 #[.int .u32 (b.o : Int), .int .u64 (b.r : Int), .int .i64 (b.v : Int)]
theorem FsW.on {w0 W W' : World} {g4 g6 : Nat} {b : Ln} (h : FsW w0 g4 g6 b W) (hb : Below W.heap.size W W') : FsW w0 g4 g6 b W' :=
  ⟨h.below.trans (hb.mono h.below.size), (hb.block g4 h.a4.lt).trans h.a4, (hb.block g6 h.a6.lt).trans h.a6⟩
theorem FsW.put {w0 W : World} {g4 g6 : Nat} {b : Ln} (h : FsW w0 g4 g6 b W) (h4 : g4 ≠ g6) (h0 : w0.heap.size ≤ g6) (t : Ln) :
    FsW w0 g4 g6 t (((W.setCell ⟨g6, 0, none⟩ (.int .u32 (t.o : Int))).setCell ⟨g6, 1, none⟩ (.int .u64 (t.r : Int))).setCell ⟨g6, 2, none⟩ (.int .i64 (t.v : Int))) :=
  ⟨below_put3 h.below h0 _ _ _, ((h.a4.far h4 _).far h4 _).far h4 _, blk_put3 h.a6 _ _ _⟩
theorem FsW.far {w0 W : World} {g4 g6 g9 : Nat} {b : Ln} (h : FsW w0 g4 g6 b W) (h4 : g4 ≠ g9) (h6 : g6 ≠ g9) (h0 : w0.heap.size ≤ g9) (y0 y1 y2 : Value) :
    FsW w0 g4 g6 b (((W.setCell ⟨g9, 0, none⟩ y0).setCell ⟨g9, 1, none⟩ y1).setCell ⟨g9, 2, none⟩ y2) :=
  ⟨below_put3 h.below h0 _ _ _, ((h.a4.far h4 _).far h4 _).far h4 _, ((h.a6.far h6 _).far h6 _).far h6 _⟩
set_option maxHeartbeats 8000000 in
theorem bd_first (A : Option Addr) (n c : Nat) (l : List Tup) (w : World) (h : RT w w.heap.size A n c l) (hn : n ≤ 1000000) :
    Calls Try.prog 45 #[.slice A n c] w (FirstOut (heldR l) w) := by
  have HL : Hid (l.length = n) := Lib.hid h.1
  have HR := Lib.hid h
  clear h
  obtain ⟨ls, hls⟩ : ∃ ls, ls = heldR l := ⟨_, rfl⟩
  rw [← hls]
  have HLS := Lib.hid hls
  clear hls
  have b1 := belowA w (.cells #[.int .u32 0, .int .u64 0, .int .i64 0] 31)
  have b2 := b1.trans ((belowA (w.alloc (.cells #[.int .u32 0, .int .u64 0, .int .i64 0] 31)) (.cells #[.int .u32 0, .int .u64 0, .int .i64 0] 31)).mono b1.size)
  have H0 : Hid (FsW w w.heap.size (w.heap.size + 1) ⟨0, 0, 0⟩ ((w.alloc (.cells #[.int .u32 0, .int .u64 0, .int .i64 0] 31)).alloc (.cells #[.int .u32 0, .int .u64 0, .int .i64 0] 31))) := Lib.hid ⟨b2, (Blk.new _ _ _).alloc _, by
    have := Blk.new (w.alloc (.cells #[.int .u32 0, .int .u64 0, .int .i64 0] 31)) 31 #[.int .u32 0, .int .u64 0, .int .i64 0]
    rw [show (w.alloc (.cells #[.int .u32 0, .int .u64 0, .int .i64 0] 31)).heap.size = w.heap.size + 1 by simp] at this
    exact this⟩
  clear b1 b2
  go_enter Try.func45, Try.ntmps45
  go_wp2_with fail
  generalize (w.alloc (.cells #[.int .u32 0, .int .u64 0, .int .i64 0] 31)).alloc (.cells #[.int .u32 0, .int .u64 0, .int .i64 0] 31) = W1 at H0 ⊢
  have HG : Hid (w.heap.size ≤ w.heap.size ∧ w.heap.size < w.heap.size + 1) := Lib.hid (by omega)
  generalize w.heap.size + 1 = g6 at H0 HG ⊢
  obtain ⟨g4, hg4⟩ : ∃ g4, g4 = w.heap.size := ⟨_, rfl⟩
  have HG : Hid (w.heap.size ≤ g4 ∧ g4 < g6) := Lib.hid (by rw [hg4]; exact HG.out)
  rw [← hg4] at H0 ⊢
  clear hg4
  go_loopw [5, 10] (fun sv i wr => ∃ (q : Nat) (sm : Bool) (b : Ln), q ≤ n ∧ i = .int .i64 (q : Int) ∧ sv = .bool sm ∧ Hid (FsW w g4 g6 b wr ∧ LsS (ls.take q) sm b ∧ b.In)) (fun _ i _ => n - (intOf i).toNat)
  case atStart => exact ⟨0, false, ⟨0, 0, 0⟩, by omega, rfl, rfl, Lib.hid ⟨H0.out, (show LsS [] false ⟨0, 0, 0⟩ from ⟨rfl, rfl⟩), ⟨by decide, by decide, by decide⟩⟩⟩
  case round =>
    obtain ⟨q, sm, b, hq, rfl, rfl, HM⟩ := hrel
    clear H0
    by_cases hlt : q < n
    · have hql : q < l.length := by rw [HL.out]; exact hlt
      have hM := HM.out.1
      obtain ⟨bA, off, rfl, hbA, c0, c1, c2⟩ := (HR.out.below hM.below).at (q := q) hql
      have HT : Hid (ls.take (q + 1) = ls.take q ++ [holdT l[q]]) := Lib.hid (by rw [HLS.out]; exact held_take hql)
      have hti := HR.out.2.1 l[q] (List.getElem_mem hql)
      generalize l[q] = t at c0 c1 c2 HT hti
      have HC := Lib.hid (bd_held t hti)
      have HYI := Lib.hid (holdT_in hti)
      obtain ⟨y, hy⟩ : ∃ y, y = holdT t := ⟨_, rfl⟩
      rw [← hy] at HC HT HYI
      clear hy
      obtain ⟨to_, tr, tv⟩ := t
      obtain ⟨yo, yr, yv⟩ := y
      obtain ⟨bo, br, bv⟩ := b
      clear hti
      simp only at c0 c1 c2
      have hM2 := hM.on (belowA wr (.cells #[.int .u32 (to_ : Int), .int .u64 (tr : Int), .int .i64 tv] 31))
      have B9 : Blk (wr.alloc (.cells #[.int .u32 (to_ : Int), .int .u64 (tr : Int), .int .i64 tv] 31)) wr.heap.size 31 #[.int .u32 (to_ : Int), .int .u64 (tr : Int), .int .i64 tv] := Blk.new _ _ _
      have h9 := hM.below.size
      have hg9 : g4 ≠ wr.heap.size ∧ g6 ≠ wr.heap.size ∧ w.heap.size ≤ wr.heap.size := ⟨Nat.ne_of_lt hM.a4.lt, Nat.ne_of_lt hM.a6.lt, h9⟩

      have H9 := Lib.hid (⟨hM2, B9, HM.out.2.1, HM.out.2.2, hg9⟩ : _ ∧ _ ∧ _ ∧ _ ∧ _)
      have g1 : (q : Int) < (n : Int) := by omega
      clear hM hM2 B9 hg9 HM hbA hql h9
      go_upto_region 6 with (fail)
      generalize wr.alloc (.cells #[.int .u32 (to_ : Int), .int .u64 (tr : Int), .int .i64 tv] 31) = W at H9 ⊢
      generalize wr.heap.size = g9 at H9  ⊢
      clear c0 c1 c2 hlt
      have k0 := H9.out.2.1.cell 0
      have k1 := H9.out.2.1.cell 1
      have k2 := H9.out.2.1.cell 2
      go_wp2_with fail
      ((with_reducible refine (HC.out _).mono ?_); rintro e W2 ⟨rfl, b2⟩)
      have q9 : Blk W2 g9 31 #[.int .u32 (to_ : Int), .int .u64 (tr : Int), .int .i64 tv] := (b2.block g9 H9.out.2.1.lt).trans H9.out.2.1
      have f90 := q9.frozen 0
      have f91 := q9.frozen 1
      have f92 := q9.frozen 2
      replace k0 := q9.cell 0
      replace k1 := q9.cell 1
      replace k2 := q9.cell 2
      have m2 := H9.out.1.on b2
      have HN : Hid (FsW w g4 g6 ⟨bo, br, bv⟩ (((W2.setCell ⟨g9, 0, none⟩ (.int .u32 (yo : Int))).setCell ⟨g9, 1, none⟩ (.int .u64 (yr : Int))).setCell ⟨g9, 2, none⟩ (.int .i64 (yv : Int))) ∧ Blk (((W2.setCell ⟨g9, 0, none⟩ (.int .u32 (yo : Int))).setCell ⟨g9, 1, none⟩ (.int .u64 (yr : Int))).setCell ⟨g9, 2, none⟩ (.int .i64 (yv : Int))) g9 31 #[.int .u32 (yo : Int), .int .u64 (yr : Int), .int .i64 (yv : Int)]) := Lib.hid ⟨m2.far H9.out.2.2.2.2.1 H9.out.2.2.2.2.2.1 H9.out.2.2.2.2.2.2 _ _ _, blk_put3 q9 _ _ _⟩
      have HS0 := Lib.hid H9.out.2.2.1
      have HBI := Lib.hid H9.out.2.2.2.1
      clear q9 b2 m2 HC H9
      go_upto_region 7 with (fail)
      generalize (((W2.setCell ⟨g9, 0, none⟩ (.int .u32 (yo : Int))).setCell ⟨g9, 1, none⟩ (.int .u64 (yr : Int))).setCell ⟨g9, 2, none⟩ (.int .i64 (yv : Int))) = W3 at HN ⊢
      clear k0 k1 k2 f90 f91 f92
      have k9o := HN.out.2.cell 0
      have k9r := HN.out.2.cell 1
      have k9v := HN.out.2.cell 2
      have k6o := HN.out.1.a6.cell 0
      have k6r := HN.out.1.a6.cell 1
      have k6v := HN.out.1.a6.cell 2
      cases sm
      · have f60 := HN.out.1.a6.frozen 0
        have f61 := HN.out.1.a6.frozen 1
        have f62 := HN.out.1.a6.frozen 2
        have HP : Hid (FsW w g4 g6 ⟨yo, yr, yv⟩ (((W3.setCell ⟨g6, 0, none⟩ (.int .u32 (yo : Int))).setCell ⟨g6, 1, none⟩ (.int .u64 (yr : Int))).setCell ⟨g6, 2, none⟩ (.int .i64 (yv : Int)))) := Lib.hid (HN.out.1.put (by have := HG.out; omega) (by have := HG.out; omega) ⟨yo, yr, yv⟩)
        have HZ : Hid (LsS (ls.take (q + 1)) true ⟨yo, yr, yv⟩) := Lib.hid (by rw [HT.out]; exact ls_first HS0.out)
        go_wp2_with fail
        go_roundw
        case rel => exact ⟨q + 1, true, ⟨yo, yr, yv⟩, by omega, by go_num, rfl, Lib.hid ⟨HP.out, HZ.out, HYI.out⟩⟩
        case measure => simp [intOf]; omega
      · have HC2 := Lib.hid (bd_lower ⟨yo, yr, yv⟩ ⟨bo, br, bv⟩)
        have HD : Hid (decide (fstL ⟨yo, yr, yv⟩ ⟨bo, br, bv⟩) = true ↔ fstL ⟨yo, yr, yv⟩ ⟨bo, br, bv⟩) := Lib.hid (decide_eq_true_iff)
        generalize decide (fstL ⟨yo, yr, yv⟩ ⟨bo, br, bv⟩) = E at HC2 HD
        go_wp2_with fail
        ((with_reducible refine (HC2.out _).mono ?_); rintro e W4 ⟨rfl, b4⟩)
        have m4 := HN.out.1.on b4
        have q9 : Blk W4 g9 31 #[.int .u32 (yo : Int), .int .u64 (yr : Int), .int .i64 (yv : Int)] := (b4.block g9 HN.out.2.lt).trans HN.out.2
        clear k9o k9r k9v k6o k6r k6v b4 HN HC2
        cases E
        · have HZ : Hid (LsS (ls.take (q + 1)) true ⟨bo, br, bv⟩) := Lib.hid (by rw [HT.out]; exact ls_stay HS0.out (fun h => by have := HD.out.2 h; cases this))
          have HM4 := Lib.hid m4
          clear m4 q9
          go_wp2_with fail
          go_roundw
          case rel => exact ⟨q + 1, true, ⟨bo, br, bv⟩, by omega, by go_num, rfl, Lib.hid ⟨HM4.out, HZ.out, HBI.out⟩⟩
          case measure => simp [intOf]; omega
        · have HZ : Hid (LsS (ls.take (q + 1)) true ⟨yo, yr, yv⟩) := Lib.hid (by rw [HT.out]; exact ls_take HS0.out (HD.out.1 rfl))
          have f60 := m4.a6.frozen 0
          have f61 := m4.a6.frozen 1
          have f62 := m4.a6.frozen 2
          have k6o := m4.a6.cell 0
          have k6r := m4.a6.cell 1
          have k6v := m4.a6.cell 2
          have k9o := q9.cell 0
          have k9r := q9.cell 1
          have k9v := q9.cell 2
          have HP : Hid (FsW w g4 g6 ⟨yo, yr, yv⟩ (((W4.setCell ⟨g6, 0, none⟩ (.int .u32 (yo : Int))).setCell ⟨g6, 1, none⟩ (.int .u64 (yr : Int))).setCell ⟨g6, 2, none⟩ (.int .i64 (yv : Int)))) := Lib.hid (m4.put (by have := HG.out; omega) (by have := HG.out; omega) ⟨yo, yr, yv⟩)
          clear m4 q9
          go_wp2_with fail
          go_roundw
          case rel => exact ⟨q + 1, true, ⟨yo, yr, yv⟩, by omega, by go_num, rfl, Lib.hid ⟨HP.out, HZ.out, HYI.out⟩⟩
          case measure => simp [intOf]; omega
    · have hqn : q = n := by omega
      have HE : Hid (ls.take q = ls) := Lib.hid (List.take_of_length_le (by rw [HLS.out]; unfold heldR; rw [List.length_map, HL.out]; omega))
      have z1 : ¬ (q : Int) < (n : Int) := by omega
      obtain ⟨bo, br, bv⟩ := b
      have hM := HM.out.1
      have k4o := hM.a4.cell 0
      have k4r := hM.a4.cell 1
      have k4v := hM.a4.cell 2
      have k6o := hM.a6.cell 0
      have k6r := hM.a6.cell 1
      have k6v := hM.a6.cell 2
      have f40 := hM.a4.frozen 0
      have f41 := hM.a4.frozen 1
      have f42 := hM.a4.frozen 2
      have HF : Hid (Below w.heap.size w (((wr.setCell ⟨g4, 0, none⟩ (.int .u32 (bo : Int))).setCell ⟨g4, 1, none⟩ (.int .u64 (br : Int))).setCell ⟨g4, 2, none⟩ (.int .i64 (bv : Int))) ∧ Blk (((wr.setCell ⟨g4, 0, none⟩ (.int .u32 (bo : Int))).setCell ⟨g4, 1, none⟩ (.int .u64 (br : Int))).setCell ⟨g4, 2, none⟩ (.int .i64 (bv : Int))) g4 31 #[.int .u32 (bo : Int), .int .u64 (br : Int), .int .i64 (bv : Int)]) := Lib.hid ⟨below_put3 hM.below (by have := HG.out; omega) _ _ _, blk_put3 hM.a4 _ _ _⟩
      have hS := HM.out.2.1
      rw [HE.out] at hS
      have HS := Lib.hid (⟨hS, HM.out.2.2⟩ : _ ∧ _)
      clear hlt hqn hM HM hS
      go_wp2_with fail
      generalize (((wr.setCell ⟨g4, 0, none⟩ (.int .u32 (bo : Int))).setCell ⟨g4, 1, none⟩ (.int .u64 (br : Int))).setCell ⟨g4, 2, none⟩ (.int .i64 (bv : Int))) = W9 at HF ⊢
      have r0 : W9.cell? ⟨g4, 0, none⟩ = some (.int .u32 (bo : Int)) := HF.out.2.cell 0
      have r1 : W9.cell? ⟨g4, 1, none⟩ = some (.int .u64 (br : Int)) := HF.out.2.cell 1
      have r2 : W9.cell? ⟨g4, 2, none⟩ = some (.int .i64 (bv : Int)) := HF.out.2.cell 2
      refine bodyPost_ret (v := .tuple #[.agg #[.int .u32 (bo : Int), .int .u64 (br : Int), .int .i64 (bv : Int)], .bool sm]) (by simp [results, Try.results45, go_sem, r0, r1, r2]; try rfl) rfl ?_
      exact ⟨⟨bo, br, bv, sm, HS.out.1, HS.out.2, rfl⟩, HF.out.1⟩
end Go.Proofs.Ytfijlgkgbbemnaa
namespace Go.Proofs.Ytfijlgkgbbemnaa
open Go.RowKit
set_option linter.unusedVariables false
set_option linter.unusedSimpArgs false
set_option maxRecDepth 20000

/-- What next answers, behind a row's a. -/
def NxtOut (ls : List Ln) (a : Ln) (w : World) (e : Ending) (w' : World) : Prop :=
  (∃ (bo br bv : Nat) (sm : Bool), ((sm = true ∧ IsNext ls a ⟨bo, br, bv⟩ ∧ above a ⟨bo, br, bv⟩) ∨ (sm = false ∧ ∀ b, IsNext ls a b → ¬ above a b)) ∧ (⟨bo, br, bv⟩ : Ln).In ∧ e = .returned (.tuple #[.agg #[.int .u32 (bo : Int), .int .u64 (br : Int), .int .i64 (bv : Int)], .bool sm])) ∧ Below w.heap.size w w'
theorem MtW.far {w0 W : World} {g3 g4 g6 g9 : Nat} {a b : Ln} (h : MtW w0 g3 g4 g6 a b W) (h3 : g3 ≠ g9) (h4 : g4 ≠ g9) (h6 : g6 ≠ g9) (h0 : w0.heap.size ≤ g9) (y0 y1 y2 : Value) :
    MtW w0 g3 g4 g6 a b (((W.setCell ⟨g9, 0, none⟩ y0).setCell ⟨g9, 1, none⟩ y1).setCell ⟨g9, 2, none⟩ y2) :=
  ⟨below_put3 h.below h0 _ _ _, ((h.a3.far h3 _).far h3 _).far h3 _, ((h.a4.far h4 _).far h4 _).far h4 _, ((h.a6.far h6 _).far h6 _).far h6 _⟩
/-- The six cells that the end reads. -/
def Six (W : World) (g3 g6 ao ar av bo br bv : Nat) : Prop := W.cell? ⟨g6, 0, none⟩ = some (.int .u32 (bo : Int)) ∧ W.cell? ⟨g6, 1, none⟩ = some (.int .u64 (br : Int)) ∧ W.cell? ⟨g6, 2, none⟩ = some (.int .i64 (bv : Int)) ∧ W.cell? ⟨g3, 0, none⟩ = some (.int .u32 (ao : Int)) ∧ W.cell? ⟨g3, 1, none⟩ = some (.int .u64 (ar : Int)) ∧ W.cell? ⟨g3, 2, none⟩ = some (.int .i64 (av : Int))
theorem MtW.six {w0 W : World} {g3 g4 g6 ao ar av bo br bv : Nat} (h : MtW w0 g3 g4 g6 ⟨ao, ar, av⟩ ⟨bo, br, bv⟩ W) : Six W g3 g6 ao ar av bo br bv := ⟨h.a6.cell 0, h.a6.cell 1, h.a6.cell 2, h.a3.cell 0, h.a3.cell 1, h.a3.cell 2⟩
theorem Six.put {W : World} {g3 g4 g6 ao ar av bo br bv : Nat} (h : Six W g3 g6 ao ar av bo br bv) (h3 : g3 ≠ g4) (h6 : g6 ≠ g4) (y0 y1 y2 : Value) : Six (((W.setCell ⟨g4, 0, none⟩ y0).setCell ⟨g4, 1, none⟩ y1).setCell ⟨g4, 2, none⟩ y2) g3 g6 ao ar av bo br bv := by
  have k : ∀ (g i : Nat), g ≠ g4 → (((W.setCell ⟨g4, 0, none⟩ y0).setCell ⟨g4, 1, none⟩ y1).setCell ⟨g4, 2, none⟩ y2).cell? ⟨g, i, none⟩ = W.cell? ⟨g, i, none⟩ := fun g i hg => by
    refine World.cell?_of_block ?_
    rw [Below.heap_setCell _ ⟨g4, 2, none⟩ _ g hg, Below.heap_setCell _ ⟨g4, 1, none⟩ _ g hg, Below.heap_setCell _ ⟨g4, 0, none⟩ _ g hg]
  obtain ⟨a1, a2, a3, a4, a5, a6⟩ := h
  exact ⟨(k _ _ h6).trans a1, (k _ _ h6).trans a2, (k _ _ h6).trans a3, (k _ _ h3).trans a4, (k _ _ h3).trans a5, (k _ _ h3).trans a6⟩
set_option maxHeartbeats 8000000 in
theorem bd_next (A : Option Addr) (n c : Nat) (l : List Tup) (a : Ln) (w : World) (h : RT w w.heap.size A n c l) (ha : a.In) (hlow : Low (heldR l) a) (hn : n ≤ 1000000) :
    Calls Try.prog 47 #[.slice A n c, a.val] w (NxtOut (heldR l) a w) := by
  have HL : Hid (l.length = n) := Lib.hid h.1
  have HR := Lib.hid h
  clear h
  obtain ⟨ls, hls⟩ : ∃ ls, ls = heldR l := ⟨_, rfl⟩
  rw [← hls] at hlow ⊢
  have HLS := Lib.hid hls
  have HLOW := Lib.hid hlow
  have HAI := Lib.hid ha
  clear hls hlow ha
  obtain ⟨ao, ar, av⟩ := a
  have b1 := belowA w (.cells #[.int .u32 (ao : Int), .int .u64 (ar : Int), .int .i64 (av : Int)] 31)
  have b2 := b1.trans ((belowA (w.alloc (.cells #[.int .u32 (ao : Int), .int .u64 (ar : Int), .int .i64 (av : Int)] 31)) (.cells #[.int .u32 0, .int .u64 0, .int .i64 0] 31)).mono b1.size)
  have b3 := b2.trans ((belowA ((w.alloc (.cells #[.int .u32 (ao : Int), .int .u64 (ar : Int), .int .i64 (av : Int)] 31)).alloc (.cells #[.int .u32 0, .int .u64 0, .int .i64 0] 31)) (.cells #[.int .u32 0, .int .u64 0, .int .i64 0] 31)).mono b2.size)
  have H0 : Hid (MtW w w.heap.size (w.heap.size + 1) (w.heap.size + 1 + 1) ⟨ao, ar, av⟩ ⟨0, 0, 0⟩ (((w.alloc (.cells #[.int .u32 (ao : Int), .int .u64 (ar : Int), .int .i64 (av : Int)] 31)).alloc (.cells #[.int .u32 0, .int .u64 0, .int .i64 0] 31)).alloc (.cells #[.int .u32 0, .int .u64 0, .int .i64 0] 31))) := Lib.hid ⟨b3, ((Blk.new _ _ _).alloc _).alloc _, by
    have := Blk.new (w.alloc (.cells #[.int .u32 (ao : Int), .int .u64 (ar : Int), .int .i64 (av : Int)] 31)) 31 #[.int .u32 0, .int .u64 0, .int .i64 0]
    rw [show (w.alloc (.cells #[.int .u32 (ao : Int), .int .u64 (ar : Int), .int .i64 (av : Int)] 31)).heap.size = w.heap.size + 1 by simp] at this
    exact this.alloc _, by
    have := Blk.new ((w.alloc (.cells #[.int .u32 (ao : Int), .int .u64 (ar : Int), .int .i64 (av : Int)] 31)).alloc (.cells #[.int .u32 0, .int .u64 0, .int .i64 0] 31)) 31 #[.int .u32 0, .int .u64 0, .int .i64 0]
    rw [show ((w.alloc (.cells #[.int .u32 (ao : Int), .int .u64 (ar : Int), .int .i64 (av : Int)] 31)).alloc (.cells #[.int .u32 0, .int .u64 0, .int .i64 0] 31)).heap.size = w.heap.size + 1 + 1 by simp] at this
    exact this⟩
  clear b1 b2 b3
  go_enter Try.func47, Try.ntmps47
  go_wp2_with fail
  generalize ((w.alloc (.cells #[.int .u32 (ao : Int), .int .u64 (ar : Int), .int .i64 (av : Int)] 31)).alloc (.cells #[.int .u32 0, .int .u64 0, .int .i64 0] 31)).alloc (.cells #[.int .u32 0, .int .u64 0, .int .i64 0] 31) = W1 at H0 ⊢
  have HG : Hid (w.heap.size ≤ w.heap.size ∧ w.heap.size < w.heap.size + 1 ∧ w.heap.size + 1 < w.heap.size + 1 + 1) := Lib.hid (by omega)
  generalize w.heap.size + 1 + 1 = g6 at H0 HG ⊢
  generalize w.heap.size + 1 = g4 at H0 HG ⊢
  obtain ⟨g3, hg3⟩ : ∃ g3, g3 = w.heap.size := ⟨_, rfl⟩
  have HG : Hid (w.heap.size ≤ g3 ∧ g3 < g4 ∧ g4 < g6) := Lib.hid (by rw [hg3]; exact HG.out)
  rw [← hg3] at H0 ⊢
  clear hg3
  go_loopw [7, 12] (fun sv i wr => ∃ (q : Nat) (sm : Bool) (b : Ln), q ≤ n ∧ i = .int .i64 (q : Int) ∧ sv = .bool sm ∧ Hid (MtW w g3 g4 g6 ⟨ao, ar, av⟩ b wr ∧ MtS (ls.take q) ⟨ao, ar, av⟩ sm b ∧ b.In)) (fun _ i _ => n - (intOf i).toNat)
  case atStart => exact ⟨0, false, ⟨0, 0, 0⟩, by omega, rfl, rfl, Lib.hid ⟨H0.out, (show MtS [] ⟨ao, ar, av⟩ false ⟨0, 0, 0⟩ from fun t ht => by cases ht), ⟨by decide, by decide, by decide⟩⟩⟩
  case round =>
    obtain ⟨q, sm, b, hq, rfl, rfl, HM⟩ := hrel
    clear H0
    by_cases hlt : q < n
    · have hql : q < l.length := by rw [HL.out]; exact hlt
      have hM := HM.out.1
      obtain ⟨bA, off, rfl, hbA, c0, c1, c2⟩ := (HR.out.below hM.below).at (q := q) hql
      have HT : Hid (ls.take (q + 1) = ls.take q ++ [holdT l[q]]) := Lib.hid (by rw [HLS.out]; exact held_take hql)
      have hti := HR.out.2.1 l[q] (List.getElem_mem hql)
      have HYM : Hid (holdT l[q] ∈ ls) := Lib.hid (by rw [HLS.out]; exact List.mem_map_of_mem (List.getElem_mem hql))
      generalize l[q] = t at c0 c1 c2 HT hti HYM
      have HC := Lib.hid (bd_held t hti)
      have HYI := Lib.hid (holdT_in hti)
      obtain ⟨y, hy⟩ : ∃ y, y = holdT t := ⟨_, rfl⟩
      rw [← hy] at HC HT HYI HYM
      clear hy
      obtain ⟨to_, tr, tv⟩ := t
      obtain ⟨yo, yr, yv⟩ := y
      obtain ⟨bo, br, bv⟩ := b
      clear hti
      simp only at c0 c1 c2
      have hM2 := hM.on (belowA wr (.cells #[.int .u32 (to_ : Int), .int .u64 (tr : Int), .int .i64 tv] 31))
      have B9 : Blk (wr.alloc (.cells #[.int .u32 (to_ : Int), .int .u64 (tr : Int), .int .i64 tv] 31)) wr.heap.size 31 #[.int .u32 (to_ : Int), .int .u64 (tr : Int), .int .i64 tv] := Blk.new _ _ _
      have h9 := hM.below.size
      have hg9 : g4 ≠ wr.heap.size ∧ g6 ≠ wr.heap.size ∧ w.heap.size ≤ wr.heap.size := ⟨Nat.ne_of_lt hM.a4.lt, Nat.ne_of_lt hM.a6.lt, h9⟩
      have hg3 : g3 ≠ wr.heap.size := Nat.ne_of_lt hM.a3.lt
      have H9 := Lib.hid (⟨hM2, B9, HM.out.2.1, HM.out.2.2, hg9⟩ : _ ∧ _ ∧ _ ∧ _ ∧ _)
      have g1 : (q : Int) < (n : Int) := by omega
      clear hM hM2 B9 hg9 HM hbA hql h9
      go_upto_region 6 with (fail)
      generalize wr.alloc (.cells #[.int .u32 (to_ : Int), .int .u64 (tr : Int), .int .i64 tv] 31) = W at H9 ⊢
      generalize wr.heap.size = g9 at H9 hg3 ⊢
      clear c0 c1 c2 hlt
      have k0 := H9.out.2.1.cell 0
      have k1 := H9.out.2.1.cell 1
      have k2 := H9.out.2.1.cell 2
      go_wp2_with fail
      ((with_reducible refine (HC.out _).mono ?_); rintro e W2 ⟨rfl, b2⟩)
      have q9 : Blk W2 g9 31 #[.int .u32 (to_ : Int), .int .u64 (tr : Int), .int .i64 tv] := (b2.block g9 H9.out.2.1.lt).trans H9.out.2.1
      have f90 := q9.frozen 0
      have f91 := q9.frozen 1
      have f92 := q9.frozen 2
      replace k0 := q9.cell 0
      replace k1 := q9.cell 1
      replace k2 := q9.cell 2
      have m2 := H9.out.1.on b2
      have HN : Hid (MtW w g3 g4 g6 ⟨ao, ar, av⟩ ⟨bo, br, bv⟩ (((W2.setCell ⟨g9, 0, none⟩ (.int .u32 (yo : Int))).setCell ⟨g9, 1, none⟩ (.int .u64 (yr : Int))).setCell ⟨g9, 2, none⟩ (.int .i64 (yv : Int))) ∧ Blk (((W2.setCell ⟨g9, 0, none⟩ (.int .u32 (yo : Int))).setCell ⟨g9, 1, none⟩ (.int .u64 (yr : Int))).setCell ⟨g9, 2, none⟩ (.int .i64 (yv : Int))) g9 31 #[.int .u32 (yo : Int), .int .u64 (yr : Int), .int .i64 (yv : Int)]) := Lib.hid ⟨m2.far hg3 H9.out.2.2.2.2.1 H9.out.2.2.2.2.2.1 H9.out.2.2.2.2.2.2 _ _ _, blk_put3 q9 _ _ _⟩
      have HS0 := Lib.hid H9.out.2.2.1
      have HBI := Lib.hid H9.out.2.2.2.1
      clear q9 b2 m2 HC H9 hg3
      go_upto_region 7 with (fail)
      generalize (((W2.setCell ⟨g9, 0, none⟩ (.int .u32 (yo : Int))).setCell ⟨g9, 1, none⟩ (.int .u64 (yr : Int))).setCell ⟨g9, 2, none⟩ (.int .i64 (yv : Int))) = W3 at HN ⊢
      clear k0 k1 k2 f90 f91 f92
      have k9o := HN.out.2.cell 0
      have k9r := HN.out.2.cell 1
      have k9v := HN.out.2.cell 2
      have k3o := HN.out.1.a3.cell 0
      have k3r := HN.out.1.a3.cell 1
      have k3v := HN.out.1.a3.cell 2
      by_cases hv : av < yv
      · have z1 : decide ((av : Int) < (yv : Int)) = true := by simp; omega
        have HCD : Hid (Cand ⟨ao, ar, av⟩ ⟨yo, yr, yv⟩) := Lib.hid ⟨hv, HLOW.out ⟨yo, yr, yv⟩ HYM.out hv⟩
        have k6o := HN.out.1.a6.cell 0
        have k6r := HN.out.1.a6.cell 1
        have k6v := HN.out.1.a6.cell 2
        cases sm
        · have f60 := HN.out.1.a6.frozen 0
          have f61 := HN.out.1.a6.frozen 1
          have f62 := HN.out.1.a6.frozen 2
          have HP : Hid (MtW w g3 g4 g6 ⟨ao, ar, av⟩ ⟨yo, yr, yv⟩ (((W3.setCell ⟨g6, 0, none⟩ (.int .u32 (yo : Int))).setCell ⟨g6, 1, none⟩ (.int .u64 (yr : Int))).setCell ⟨g6, 2, none⟩ (.int .i64 (yv : Int)))) := Lib.hid (HN.out.1.put (by have := HG.out; omega) (by have := HG.out; omega) (by have := HG.out; omega) ⟨yo, yr, yv⟩)
          have HZ : Hid (MtS (ls.take (q + 1)) ⟨ao, ar, av⟩ true ⟨yo, yr, yv⟩) := Lib.hid (by rw [HT.out]; exact mt_first HS0.out HCD.out)
          go_wp2_with fail
          go_roundw
          case rel => exact ⟨q + 1, true, ⟨yo, yr, yv⟩, by omega, by go_num, rfl, Lib.hid ⟨HP.out, HZ.out, HYI.out⟩⟩
          case measure => simp [intOf]; omega
        · have HC2 := Lib.hid (bd_sooner ⟨ao, ar, av⟩ ⟨yo, yr, yv⟩ ⟨bo, br, bv⟩ HAI.out HYI.out HBI.out)
          have HD : Hid (decide (betterL ⟨ao, ar, av⟩ ⟨yo, yr, yv⟩ ⟨bo, br, bv⟩) = true ↔ betterL ⟨ao, ar, av⟩ ⟨yo, yr, yv⟩ ⟨bo, br, bv⟩) := Lib.hid (decide_eq_true_iff)
          generalize decide (betterL ⟨ao, ar, av⟩ ⟨yo, yr, yv⟩ ⟨bo, br, bv⟩) = E at HC2 HD
          go_wp2_with fail
          ((with_reducible refine (HC2.out _).mono ?_); rintro e W4 ⟨rfl, b4⟩)
          have m4 := HN.out.1.on b4
          have q9 : Blk W4 g9 31 #[.int .u32 (yo : Int), .int .u64 (yr : Int), .int .i64 (yv : Int)] := (b4.block g9 HN.out.2.lt).trans HN.out.2
          clear k9o k9r k9v k6o k6r k6v k3o k3r k3v b4 HN HC2
          cases E
          · have HZ : Hid (MtS (ls.take (q + 1)) ⟨ao, ar, av⟩ true ⟨bo, br, bv⟩) := Lib.hid (by rw [HT.out]; exact mt_stay HS0.out (fun h => by have := HD.out.2 h; cases this))
            have HM4 := Lib.hid m4
            clear m4 q9
            go_wp2_with fail
            go_roundw
            case rel => exact ⟨q + 1, true, ⟨bo, br, bv⟩, by omega, by go_num, rfl, Lib.hid ⟨HM4.out, HZ.out, HBI.out⟩⟩
            case measure => simp [intOf]; omega
          · have HZ : Hid (MtS (ls.take (q + 1)) ⟨ao, ar, av⟩ true ⟨yo, yr, yv⟩) := Lib.hid (by rw [HT.out]; exact mt_take HS0.out HCD.out (HD.out.1 rfl))
            have f60 := m4.a6.frozen 0
            have f61 := m4.a6.frozen 1
            have f62 := m4.a6.frozen 2
            have k6o := m4.a6.cell 0
            have k6r := m4.a6.cell 1
            have k6v := m4.a6.cell 2
            have k9o := q9.cell 0
            have k9r := q9.cell 1
            have k9v := q9.cell 2
            have HP : Hid (MtW w g3 g4 g6 ⟨ao, ar, av⟩ ⟨yo, yr, yv⟩ (((W4.setCell ⟨g6, 0, none⟩ (.int .u32 (yo : Int))).setCell ⟨g6, 1, none⟩ (.int .u64 (yr : Int))).setCell ⟨g6, 2, none⟩ (.int .i64 (yv : Int)))) := Lib.hid (m4.put (by have := HG.out; omega) (by have := HG.out; omega) (by have := HG.out; omega) ⟨yo, yr, yv⟩)
            clear m4 q9
            go_wp2_with fail
            go_roundw
            case rel => exact ⟨q + 1, true, ⟨yo, yr, yv⟩, by omega, by go_num, rfl, Lib.hid ⟨HP.out, HZ.out, HYI.out⟩⟩
            case measure => simp [intOf]; omega
      · have z1 : decide ((av : Int) < (yv : Int)) = false := by simp; omega
        have HZ : Hid (MtS (ls.take (q + 1)) ⟨ao, ar, av⟩ sm ⟨bo, br, bv⟩) := Lib.hid (by rw [HT.out]; exact mt_skip HS0.out (fun cc => hv cc.1))
        go_wp2_with fail
        go_roundw
        case rel => exact ⟨q + 1, sm, ⟨bo, br, bv⟩, by omega, by go_num, rfl, Lib.hid ⟨HN.out.1, HZ.out, HBI.out⟩⟩
        case measure => simp [intOf]; omega
    · have hqn : q = n := by omega
      have HE : Hid (ls.take q = ls) := Lib.hid (List.take_of_length_le (by rw [HLS.out]; unfold heldR; rw [List.length_map, HL.out]; omega))
      have z1 : ¬ (q : Int) < (n : Int) := by omega
      obtain ⟨bo, br, bv⟩ := b
      have hM := HM.out.1
      have hS := HM.out.2.1
      rw [HE.out] at hS
      have HS := Lib.hid (⟨hS, HM.out.2.2⟩ : _ ∧ _)
      have HMM := Lib.hid hM
      have k3o := hM.a3.cell 0
      have k3r := hM.a3.cell 1
      have k3v := hM.a3.cell 2
      have k4o := hM.a4.cell 0
      have k4r := hM.a4.cell 1
      have k4v := hM.a4.cell 2
      have k6o := hM.a6.cell 0
      have k6r := hM.a6.cell 1
      have k6v := hM.a6.cell 2
      have f40 := hM.a4.frozen 0
      have f41 := hM.a4.frozen 1
      have f42 := hM.a4.frozen 2
      clear hlt hqn hM HM hS
      cases sm
      · have HX : Hid (∀ b, IsNext ls ⟨ao, ar, av⟩ b → ¬ above ⟨ao, ar, av⟩ b) := Lib.hid (fun b hb => absurd hb.2.1 ((show ∀ t ∈ ls, ¬ Cand ⟨ao, ar, av⟩ t from HS.out.1) b hb.1))
        have HF : Hid (Below w.heap.size w (((wr.setCell ⟨g4, 0, none⟩ (.int .u32 (bo : Int))).setCell ⟨g4, 1, none⟩ (.int .u64 (br : Int))).setCell ⟨g4, 2, none⟩ (.int .i64 (bv : Int))) ∧ Blk (((wr.setCell ⟨g4, 0, none⟩ (.int .u32 (bo : Int))).setCell ⟨g4, 1, none⟩ (.int .u64 (br : Int))).setCell ⟨g4, 2, none⟩ (.int .i64 (bv : Int))) g4 31 #[.int .u32 (bo : Int), .int .u64 (br : Int), .int .i64 (bv : Int)]) := Lib.hid ⟨below_put3 HMM.out.below (by have := HG.out; omega) _ _ _, blk_put3 HMM.out.a4 _ _ _⟩
        go_upto_region 10 with (fail)
        go_region
        go_wp2_with fail
        generalize (((wr.setCell ⟨g4, 0, none⟩ (.int .u32 (bo : Int))).setCell ⟨g4, 1, none⟩ (.int .u64 (br : Int))).setCell ⟨g4, 2, none⟩ (.int .i64 (bv : Int))) = W9 at HF ⊢
        have r0 : W9.cell? ⟨g4, 0, none⟩ = some (.int .u32 (bo : Int)) := HF.out.2.cell 0
        have r1 : W9.cell? ⟨g4, 1, none⟩ = some (.int .u64 (br : Int)) := HF.out.2.cell 1
        have r2 : W9.cell? ⟨g4, 2, none⟩ = some (.int .i64 (bv : Int)) := HF.out.2.cell 2
        refine bodyPost_ret (v := .tuple #[.agg #[.int .u32 (bo : Int), .int .u64 (br : Int), .int .i64 (bv : Int)], .bool false]) (by simp [results, Try.results47, go_sem, r0, r1, r2]; try rfl) rfl ?_
        exact ⟨⟨bo, br, bv, false, .inr ⟨rfl, HX.out⟩, HS.out.2, rfl⟩, HF.out.1.drew⟩
      · go_upto_region 10 with (fail)
        have HC2 := Lib.hid (bd_above ⟨ao, ar, av⟩ ⟨bo, br, bv⟩ HAI.out HS.out.2)
        have HD : Hid (decide (above ⟨ao, ar, av⟩ ⟨bo, br, bv⟩) = true ↔ above ⟨ao, ar, av⟩ ⟨bo, br, bv⟩) := Lib.hid (decide_eq_true_iff)
        have hs0 := HMM.out.six
        unfold Six at hs0
        generalize decide (above ⟨ao, ar, av⟩ ⟨bo, br, bv⟩) = E at HC2 HD
        go_region_held3 (fun W => W.cell? ⟨g6, 0, none⟩ = some (.int .u32 (bo : Int)) ∧ W.cell? ⟨g6, 1, none⟩ = some (.int .u64 (br : Int)) ∧ W.cell? ⟨g6, 2, none⟩ = some (.int .i64 (bv : Int)) ∧ W.cell? ⟨g3, 0, none⟩ = some (.int .u32 (ao : Int)) ∧ W.cell? ⟨g3, 1, none⟩ = some (.int .u64 (ar : Int)) ∧ W.cell? ⟨g3, 2, none⟩ = some (.int .i64 (av : Int)))
          (first
            | ((conv in (World.setCell _ _ _) => skip)
               go_split_ands
               exact s6)
            | (go_split_ands
               exact s5)
            | go_keep)
          (first
            | (go_at_call 54; refine (HC2.out _).mono ?_; rintro e W5 ⟨rfl, b5⟩; have m5 : MtW w g3 g4 g6 ⟨ao, ar, av⟩ ⟨bo, br, bv⟩ W5 := HMM.out.on ((Below.refl _ wr).drew.trans b5); have s5 := m5.six; unfold Six at s5; have f50 := m5.a4.frozen 0; have f51 := m5.a4.frozen 1; have f52 := m5.a4.frozen 2; have k50 := m5.a4.cell 0; have k51 := m5.a4.cell 1; have k52 := m5.a4.cell 2; have s6 := m5.six.put (g4 := g4) (by have := HG.out; omega) (by have := HG.out; omega) (.int .u32 (bo : Int)) (.int .u64 (br : Int)) (.int .i64 (bv : Int)); unfold Six at s6))
        have HF : Hid (Below w.heap.size w (((W5.setCell ⟨g4, 0, none⟩ (.int .u32 (bo : Int))).setCell ⟨g4, 1, none⟩ (.int .u64 (br : Int))).setCell ⟨g4, 2, none⟩ (.int .i64 (bv : Int))) ∧ Blk (((W5.setCell ⟨g4, 0, none⟩ (.int .u32 (bo : Int))).setCell ⟨g4, 1, none⟩ (.int .u64 (br : Int))).setCell ⟨g4, 2, none⟩ (.int .i64 (bv : Int))) g4 31 #[.int .u32 (bo : Int), .int .u64 (br : Int), .int .i64 (bv : Int)]) := Lib.hid ⟨below_put3 m5.below (by have := HG.out; omega) _ _ _, blk_put3 m5.a4 _ _ _⟩
        have HX : Hid ((E = true ∧ IsNext ls ⟨ao, ar, av⟩ ⟨bo, br, bv⟩ ∧ above ⟨ao, ar, av⟩ ⟨bo, br, bv⟩) ∨ (E = false ∧ ∀ b, IsNext ls ⟨ao, ar, av⟩ b → ¬ above ⟨ao, ar, av⟩ b)) := Lib.hid (by
          have hx : IsNext ls ⟨ao, ar, av⟩ ⟨bo, br, bv⟩ := HS.out.1
          cases E
          · exact .inr ⟨rfl, fun b hb hab => by have e := next_one hb hx; rw [e] at hab; have := HD.out.2 hab; cases this⟩
          · exact .inl ⟨rfl, hx, HD.out.1 rfl⟩)
        clear m5 s5 s6 f50 f51 f52 k50 k51 k52
        go_wp2_with fail
        generalize (((W5.setCell ⟨g4, 0, none⟩ (.int .u32 (bo : Int))).setCell ⟨g4, 1, none⟩ (.int .u64 (br : Int))).setCell ⟨g4, 2, none⟩ (.int .i64 (bv : Int))) = W9 at HF ⊢
        have r0 : W9.cell? ⟨g4, 0, none⟩ = some (.int .u32 (bo : Int)) := HF.out.2.cell 0
        have r1 : W9.cell? ⟨g4, 1, none⟩ = some (.int .u64 (br : Int)) := HF.out.2.cell 1
        have r2 : W9.cell? ⟨g4, 2, none⟩ = some (.int .i64 (bv : Int)) := HF.out.2.cell 2
        refine bodyPost_ret (v := .tuple #[.agg #[.int .u32 (bo : Int), .int .u64 (br : Int), .int .i64 (bv : Int)], .bool E]) (by simp [results, Try.results47, go_sem, r0, r1, r2]; try rfl) rfl ?_
        exact ⟨⟨bo, br, bv, E, HX.out, HS.out.2, rfl⟩, HF.out.1⟩
end Go.Proofs.Ytfijlgkgbbemnaa
