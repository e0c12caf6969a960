/- limelightref13's meets: which line meets the last one's first. -/
import Derived.Test.YtfijlgkgbbemnaaBdB
import Derived.Test.YtfijlgkgbbemnaaCkL
import Derived.BigQuiet
import Derived.Deep.QuietTactic
import Derived.Deep.Cut
import Derived.Deep.CutBlock
namespace Go.Proofs.Ytfijlgkgbbemnaa
open Go.RowKit
set_option linter.unusedVariables false
set_option linter.unusedSimpArgs false
set_option maxRecDepth 20000

theorem next_nil (a b : Ln) : ¬ IsNext [] a b := fun h => by cases h.1
theorem next_skip {l : List Ln} {a t b : Ln} (h : ¬ Cand a t) : IsNext (l ++ [t]) a b ↔ IsNext l a b := by
  constructor
  · rintro ⟨h1, h2, h3⟩
    rcases List.mem_append.1 h1 with h1 | h1
    · exact ⟨h1, h2, fun c hc => h3 c (List.mem_append_left _ hc)⟩
    · rw [List.mem_singleton] at h1
      rw [h1] at h2
      exact absurd h2 h
  · rintro ⟨h1, h2, h3⟩
    refine ⟨List.mem_append_left _ h1, h2, fun c hc hcc => ?_⟩
    rcases List.mem_append.1 hc with hc | hc
    · exact h3 c hc hcc
    · rw [List.mem_singleton] at hc
      rw [hc] at hcc
      exact absurd hcc h
/-- What is known of the first q of a row. -/
def MtS (l : List Ln) (a : Ln) (sm : Bool) (b : Ln) : Prop := if sm = true then IsNext l a b else ∀ t ∈ l, ¬ Cand a t
theorem mt_skip {l : List Ln} {a t b : Ln} {sm : Bool} (h : MtS l a sm b) (hc : ¬ Cand a t) : MtS (l ++ [t]) a sm b := by
  unfold MtS at h ⊢
  cases sm
  · intro x hx
    rcases List.mem_append.1 hx with hx | hx
    · exact h x hx
    · rw [List.mem_singleton] at hx
      rw [hx]; exact hc
  · exact (next_skip hc).2 h
theorem mt_first {l : List Ln} {a t b : Ln} (h : MtS l a false b) (hc : Cand a t) : MtS (l ++ [t]) a true t := by
  refine (show IsNext (l ++ [t]) a t from ⟨by simp, hc, fun c hm hcc hb => ?_⟩)
  rcases List.mem_append.1 hm with hm | hm
  · exact h c hm hcc
  · rw [List.mem_singleton] at hm
    rw [hm] at hb
    exact better_irrefl _ _ hb
theorem mt_take {l : List Ln} {a t b : Ln} (h : MtS l a true b) (hc : Cand a t) (hb : betterL a t b) : MtS (l ++ [t]) a true t := by
  have h : IsNext l a b := h
  refine (show IsNext (l ++ [t]) a t from ⟨by simp, hc, fun c hm hcc hx => ?_⟩)
  rcases List.mem_append.1 hm with hm | hm
  · exact h.2.2 c hm hcc (better_trans hcc.1 hc.1 h.2.1.1 hx hb)
  · rw [List.mem_singleton] at hm
    rw [hm] at hx
    exact better_irrefl _ _ hx
theorem mt_stay {l : List Ln} {a t b : Ln} (h : MtS l a true b) (hb : ¬ betterL a t b) : MtS (l ++ [t]) a true b := by
  have h : IsNext l a b := h
  refine (show IsNext (l ++ [t]) a b from ⟨List.mem_append_left _ h.1, h.2.1, fun c hm hcc => ?_⟩)
  rcases List.mem_append.1 hm with hm | hm
  · exact h.2.2 c hm hcc
  · rw [List.mem_singleton] at hm
    rw [hm]; exact hb
/-- What meets answers. -/
def MeetOut (ls : List Ln) (a : Ln) (w : World) (e : Ending) (w' : World) : Prop :=
  ((∃ b, IsNext ls a b ∧ above a b ∧ e = .returned (.tuple #[(unT b).val, .bool true])) ∨ ((∀ b, IsNext ls a b → ¬ above a b) ∧ e = .returned (.tuple #[zT.val, .bool false]))) ∧ Below w.heap.size w w'
/-- What stands in memory meanwhile. -/
structure MtW (w0 : World) (g3 g4 g6 : Nat) (a b : Ln) (W : World) : Prop where
  below : Below w0.heap.size w0 W
  a3 : Blk W g3 31 #[.int .u32 (a.o : Int), .int .u64 (a.r : Int), .int .i64 (a.v : Int)]
  a4 : Blk W g4 31 #[.int .u32 0, .int .u64 0, .int .i64 0]
  a6 : Blk W g6 31 #[.int .u32 (b.o : Int), .int .u64 (b.r : Int), .int .i64 (b.v : Int)]
theorem MtW.on {w0 W W' : World} {g3 g4 g6 : Nat} {a b : Ln} (h : MtW w0 g3 g4 g6 a b W) (hb : Below W.heap.size W W') : MtW w0 g3 g4 g6 a b W' :=
  ⟨h.below.trans (hb.mono h.below.size), (hb.block g3 h.a3.lt).trans h.a3, (hb.block g4 h.a4.lt).trans h.a4, (hb.block g6 h.a6.lt).trans h.a6⟩
theorem MtW.put {w0 W : World} {g3 g4 g6 : Nat} {a b : Ln} (h : MtW w0 g3 g4 g6 a b W) (h3 : g3 ≠ g6) (h4 : g4 ≠ g6) (h0 : w0.heap.size ≤ g6) (t : Ln) :
    MtW w0 g3 g4 g6 a t (((W.setCell ⟨g6, 0, none⟩ (.int .u32 (t.o : Int))).setCell ⟨g6, 1, none⟩ (.int .u64 (t.r : Int))).setCell ⟨g6, 2, none⟩ (.int .i64 (t.v : Int))) := by
  refine ⟨Below.setCell (Below.setCell (Below.setCell h.below (p := ⟨g6, 0, none⟩) h0 _) (p := ⟨g6, 1, none⟩) h0 _) (p := ⟨g6, 2, none⟩) h0 _, ((h.a3.far h3 _).far h3 _).far h3 _, ((h.a4.far h4 _).far h4 _).far h4 _, ?_⟩
  have := ((h.a6.set_ 0 (.int .u32 (t.o : Int))).set_ 1 (.int .u64 (t.r : Int))).set_ 2 (.int .i64 (t.v : Int))
  simpa only [List.setIfInBounds_toArray, List.set_cons_succ, List.set_cons_zero] using this
theorem blk_put3 {W : World} {g : Nat} {T : TypeId} {x0 x1 x2 : Value} (h : Blk W g T #[x0, x1, x2]) (y0 y1 y2 : Value) : Blk (((W.setCell ⟨g, 0, none⟩ y0).setCell ⟨g, 1, none⟩ y1).setCell ⟨g, 2, none⟩ y2) g T #[y0, y1, y2] := by
  have := ((h.set_ 0 y0).set_ 1 y1).set_ 2 y2
  simpa only [List.setIfInBounds_toArray, List.set_cons_succ, List.set_cons_zero] using this
theorem below_put3 {B : Nat} {w W : World} (h : Below B w W) {g : Nat} (hg : B ≤ g) (y0 y1 y2 : Value) : Below B w (((W.setCell ⟨g, 0, none⟩ y0).setCell ⟨g, 1, none⟩ y1).setCell ⟨g, 2, none⟩ y2) :=
  Below.setCell (Below.setCell (Below.setCell h (p := ⟨g, 0, none⟩) hg _) (p := ⟨g, 1, none⟩) hg _) (p := ⟨g, 2, none⟩) hg _
theorem lessC_yes {a b c d : Nat} (h : a * b < c * d) : lessC (a : Int) (b : Int) (c : Int) (d : Int) = true := by
  unfold lessC po
  simpa using h
theorem lessC_no {a b c d : Nat} (h : ¬ a * b < c * d) : lessC (a : Int) (b : Int) (c : Int) (d : Int) = false := by
  unfold lessC po
  simpa using h
set_option maxHeartbeats 8000000 in
theorem ref_meets (A : Option Addr) (n c : Nat) (ls : List Ln) (a : Ln) (w : World) (h : RT w w.heap.size A n c (ls.map unT)) (hi : ∀ x ∈ ls, x.In) (ha : a.In) (hn : n ≤ 1000000) :
    Calls Try.prog 42 #[.slice A n c, (unT a).val] w (MeetOut ls a w) := by
  have HL : Hid (ls.length = n) := Lib.hid (by have := h.1; rwa [List.length_map] at this)
  have HR := Lib.hid h
  have HI := Lib.hid hi
  obtain ⟨ao, ar, av⟩ := a
  obtain ⟨hao, har, hav⟩ := ha
  simp only at hao har hav
  show Calls Try.prog 42 #[.slice A n c, .agg #[.int .u32 (ao : Int), .int .u64 (ar : Int), .int .i64 (av : Int)]] w (MeetOut ls ⟨ao, ar, av⟩ w)
  clear h hi
  have b1 := belowA w (.cells #[.int .u32 (ao : Int), .int .u64 (ar : Int), .int .i64 (av : Int)] 31)
  have b2 := b1.trans ((belowA (w.alloc (.cells #[.int .u32 (ao : Int), .int .u64 (ar : Int), .int .i64 (av : Int)] 31)) (.cells #[.int .u32 0, .int .u64 0, .int .i64 0] 31)).mono b1.size)
  have b3 := b2.trans ((belowA ((w.alloc (.cells #[.int .u32 (ao : Int), .int .u64 (ar : Int), .int .i64 (av : Int)] 31)).alloc (.cells #[.int .u32 0, .int .u64 0, .int .i64 0] 31)) (.cells #[.int .u32 0, .int .u64 0, .int .i64 0] 31)).mono b2.size)
  have H0 : Hid (MtW w w.heap.size (w.heap.size + 1) (w.heap.size + 1 + 1) ⟨ao, ar, av⟩ ⟨0, 0, 0⟩ (((w.alloc (.cells #[.int .u32 (ao : Int), .int .u64 (ar : Int), .int .i64 (av : Int)] 31)).alloc (.cells #[.int .u32 0, .int .u64 0, .int .i64 0] 31)).alloc (.cells #[.int .u32 0, .int .u64 0, .int .i64 0] 31))) := Lib.hid ⟨b3, ((Blk.new _ _ _).alloc _).alloc _, by
    have := Blk.new (w.alloc (.cells #[.int .u32 (ao : Int), .int .u64 (ar : Int), .int .i64 (av : Int)] 31)) 31 #[.int .u32 0, .int .u64 0, .int .i64 0]
    rw [show (w.alloc (.cells #[.int .u32 (ao : Int), .int .u64 (ar : Int), .int .i64 (av : Int)] 31)).heap.size = w.heap.size + 1 by simp] at this
    exact this.alloc _, by
    have := Blk.new ((w.alloc (.cells #[.int .u32 (ao : Int), .int .u64 (ar : Int), .int .i64 (av : Int)] 31)).alloc (.cells #[.int .u32 0, .int .u64 0, .int .i64 0] 31)) 31 #[.int .u32 0, .int .u64 0, .int .i64 0]
    rw [show ((w.alloc (.cells #[.int .u32 (ao : Int), .int .u64 (ar : Int), .int .i64 (av : Int)] 31)).alloc (.cells #[.int .u32 0, .int .u64 0, .int .i64 0] 31)).heap.size = w.heap.size + 1 + 1 by simp] at this
    exact this⟩
  clear b1 b2 b3
  go_enter Try.func42, Try.ntmps42
  go_wp2_with fail
  generalize ((w.alloc (.cells #[.int .u32 (ao : Int), .int .u64 (ar : Int), .int .i64 (av : Int)] 31)).alloc (.cells #[.int .u32 0, .int .u64 0, .int .i64 0] 31)).alloc (.cells #[.int .u32 0, .int .u64 0, .int .i64 0] 31) = W1 at H0 ⊢
  have HG : Hid (w.heap.size ≤ w.heap.size ∧ w.heap.size < w.heap.size + 1 ∧ w.heap.size + 1 < w.heap.size + 1 + 1) := Lib.hid (by omega)
  generalize w.heap.size + 1 + 1 = g6 at H0 HG ⊢
  generalize w.heap.size + 1 = g4 at H0 HG ⊢
  obtain ⟨g3, hg3⟩ : ∃ g3, g3 = w.heap.size := ⟨_, rfl⟩
  have HG : Hid (w.heap.size ≤ g3 ∧ g3 < g4 ∧ g4 < g6) := Lib.hid (by rw [hg3]; exact HG.out)
  rw [← hg3] at H0 ⊢
  clear hg3
  go_loopw [7, 16] (fun sv i wr => ∃ (q : Nat) (sm : Bool) (b : Ln), q ≤ n ∧ i = .int .i64 (q : Int) ∧ sv = .bool sm ∧ Hid (MtW w g3 g4 g6 ⟨ao, ar, av⟩ b wr ∧ MtS (ls.take q) ⟨ao, ar, av⟩ sm b ∧ b.In)) (fun _ i _ => n - (intOf i).toNat)
  case atStart => exact ⟨0, false, ⟨0, 0, 0⟩, by omega, rfl, rfl, Lib.hid ⟨H0.out, (show MtS [] ⟨ao, ar, av⟩ false ⟨0, 0, 0⟩ from fun t ht => by cases ht), ⟨by decide, by decide, by decide⟩⟩⟩
  case round =>
    obtain ⟨q, sm, b, hq, rfl, rfl, HM⟩ := hrel
    clear H0
    by_cases hlt : q < n
    · have hql : q < ls.length := by rw [HL.out]; exact hlt
      have hM := HM.out.1
      obtain ⟨bA, off, rfl, hbA, c0, c1, c2⟩ := (HR.out.below hM.below).at (q := q) (by simpa using hql)
      simp only [List.getElem_map] at c0 c1 c2
      have HT : Hid (ls.take (q + 1) = ls.take q ++ [ls[q]]) := Lib.hid (List.take_succ_eq_append_getElem hql)
      have hti := HI.out ls[q] (List.getElem_mem hql)
      generalize ls[q] = t at c0 c1 c2 HT hti
      obtain ⟨to_, tr, tv⟩ := t
      obtain ⟨bo, br, bv⟩ := b
      obtain ⟨ht1, ht2, ht3⟩ := hti
      replace c0 : wr.cell? ⟨bA, off + q * 3, none⟩ = some (.int .u32 (to_ : Int)) := c0
      replace c1 : wr.cell? ⟨bA, off + q * 3 + 1, none⟩ = some (.int .u64 (tr : Int)) := c1
      replace c2 : wr.cell? ⟨bA, off + q * 3 + 2, none⟩ = some (.int .i64 (tv : Int)) := c2
      simp only at ht1 ht2 ht3
      have hM2 := hM.on (belowA wr (.cells #[.int .u32 (to_ : Int), .int .u64 (tr : Int), .int .i64 (tv : Int)] 31))
      have B9 : Blk (wr.alloc (.cells #[.int .u32 (to_ : Int), .int .u64 (tr : Int), .int .i64 (tv : Int)] 31)) wr.heap.size 31 #[.int .u32 (to_ : Int), .int .u64 (tr : Int), .int .i64 (tv : Int)] := Blk.new _ _ _
      have hg9 : g3 < wr.heap.size ∧ g6 < wr.heap.size := ⟨hM.a3.lt, hM.a6.lt⟩
      obtain ⟨hb1, hb2, hb3⟩ := HM.out.2.2
      simp only at hb1 hb2 hb3
      have H9 := Lib.hid (⟨hM2, B9, HM.out.2.1, hg9⟩ : _ ∧ _ ∧ _ ∧ _)
      have HBI := Lib.hid (⟨hb1, hb2, hb3⟩ : _ ∧ _ ∧ _)
      have HTI := Lib.hid (⟨ht1, ht2, ht3⟩ : _ ∧ _ ∧ _)
      have g1 : (q : Int) < (n : Int) := by omega
      clear hM hM2 B9 hg9 HM hbA hql ht1 hb1
      go_upto_region 6 with (fail)
      generalize wr.alloc (.cells #[.int .u32 (to_ : Int), .int .u64 (tr : Int), .int .i64 (tv : Int)] 31) = W at H9 ⊢
      generalize wr.heap.size = g9 at H9 ⊢
      clear c0 c1 c2 hlt
      have k3r := H9.out.1.a3.cell 1
      have k3v := H9.out.1.a3.cell 2
      have k9o := H9.out.2.1.cell 0
      have k9r := H9.out.2.1.cell 1
      have k9v := H9.out.2.1.cell 2
      by_cases hv : tv ≤ av
      · have z1 : decide ((tv : Int) ≤ (av : Int)) = true := by simp; omega
        have z2 : (tv : Int) ≤ (av : Int) := by omega
        have HN : Hid (MtS (ls.take (q + 1)) ⟨ao, ar, av⟩ sm ⟨bo, br, bv⟩) := Lib.hid (by rw [HT.out]; exact mt_skip H9.out.2.2.1 (fun c => by have := c.1; simp only at this; omega))
        go_wp2_with fail
        go_roundw
        case rel => exact ⟨q + 1, sm, ⟨bo, br, bv⟩, by omega, by go_num, rfl, Lib.hid ⟨H9.out.1, HN.out, HBI.out.1, HBI.out.2.1, HBI.out.2.2⟩⟩
        case measure => simp [intOf]; omega
      have z1 : decide ((tv : Int) ≤ (av : Int)) = false := by simp; omega
      have z2 : ¬ (tv : Int) ≤ (av : Int) := by omega
      have z2n : ¬ tv ≤ av := hv
      by_cases hr : tr < ar
      · have z3 : decide ((tr : Int) < (ar : Int)) = true := by simp; omega
        have z4 : (tr : Int) < (ar : Int) := by omega
        have HN : Hid (MtS (ls.take (q + 1)) ⟨ao, ar, av⟩ sm ⟨bo, br, bv⟩) := Lib.hid (by rw [HT.out]; exact mt_skip H9.out.2.2.1 (fun c => by have := c.2; simp only at this; omega))
        go_wp2_with fail
        go_roundw
        case rel => exact ⟨q + 1, sm, ⟨bo, br, bv⟩, by omega, by go_num, rfl, Lib.hid ⟨H9.out.1, HN.out, HBI.out.1, HBI.out.2.1, HBI.out.2.2⟩⟩
        case measure => simp [intOf]; omega
      have z3 : decide ((tr : Int) < (ar : Int)) = false := by simp; omega
      have z4 : ¬ (tr : Int) < (ar : Int) := by omega
      have z4n : ¬ tr < ar := hr
      have f60 := H9.out.1.a6.frozen 0
      have f61 := H9.out.1.a6.frozen 1
      have f62 := H9.out.1.a6.frozen 2
      have k6o := H9.out.1.a6.cell 0
      have k6r := H9.out.1.a6.cell 1
      have k6v := H9.out.1.a6.cell 2
      have HPUT : Hid (MtW w g3 g4 g6 ⟨ao, ar, av⟩ ⟨to_, tr, tv⟩ (((W.setCell ⟨g6, 0, none⟩ (.int .u32 (to_ : Int))).setCell ⟨g6, 1, none⟩ (.int .u64 (tr : Int))).setCell ⟨g6, 2, none⟩ (.int .i64 (tv : Int)))) := Lib.hid (H9.out.1.put (by have := HG.out; omega) (by have := HG.out; omega) (by have := HG.out; omega) ⟨to_, tr, tv⟩)
      cases sm
      · have HN : Hid (MtS (ls.take (q + 1)) ⟨ao, ar, av⟩ true ⟨to_, tr, tv⟩) := Lib.hid (by rw [HT.out]; exact mt_first H9.out.2.2.1 ⟨by simp only; omega, by simp only; omega⟩)
        go_wp2_with fail
        go_roundw
        case rel => exact ⟨q + 1, true, ⟨to_, tr, tv⟩, by omega, by go_num, rfl, Lib.hid ⟨HPUT.out, HN.out, HTI.out.1, HTI.out.2.1, HTI.out.2.2⟩⟩
        case measure => simp [intOf]; omega
      · have HCB : Hid (av < bv ∧ ar ≤ br) := Lib.hid (by have h : IsNext (ls.take q) ⟨ao, ar, av⟩ ⟨bo, br, bv⟩ := H9.out.2.2.1; exact h.2.1)
        have HCT : Hid (Cand ⟨ao, ar, av⟩ ⟨to_, tr, tv⟩) := Lib.hid ⟨by simp only; omega, by simp only; omega⟩
        obtain ⟨p1, hp1⟩ : ∃ p1, p1 = tr - ar := ⟨_, rfl⟩
        obtain ⟨p2, hp2⟩ : ∃ p2, p2 = bv - av := ⟨_, rfl⟩
        obtain ⟨p3, hp3⟩ : ∃ p3, p3 = br - ar := ⟨_, rfl⟩
        obtain ⟨p4, hp4⟩ : ∃ p4, p4 = tv - av := ⟨_, rfl⟩
        have HP := Lib.hid (⟨hp1, hp2, hp3, hp4⟩ : _ ∧ _ ∧ _ ∧ _)
        have hcb := HCB.out
        have y39 : IntKind.u64.wrap ((tr : Int) - (ar : Int)) = (p1 : Int) := by rw [IntKind.wrap_u64]; omega
        have y45 : IntKind.i64.wrap ((bv : Int) - (av : Int)) = (p2 : Int) := by rw [IntKind.wrap_i64]; omega
        have y50 : IntKind.u64.wrap ((br : Int) - (ar : Int)) = (p3 : Int) := by rw [IntKind.wrap_u64]; omega
        have y56 : IntKind.i64.wrap ((tv : Int) - (av : Int)) = (p4 : Int) := by rw [IntKind.wrap_i64]; omega
        have y40 : IntKind.i64.wrap (p1 : Int) = (p1 : Int) := i64_nn _ (by omega)
        have y51 : IntKind.i64.wrap (p3 : Int) = (p3 : Int) := i64_nn _ (by omega)
        have HC1 := Lib.hid (ref_less (p1 : Int) (p2 : Int) (p3 : Int) (p4 : Int) (by unfold I64; omega) (by unfold I64; omega) (by unfold I64; omega) (by unfold I64; omega))
        have HC2 := Lib.hid (ref_less (p3 : Int) (p4 : Int) (p1 : Int) (p2 : Int) (by unfold I64; omega) (by unfold I64; omega) (by unfold I64; omega) (by unfold I64; omega))
        clear hp1 hp2 hp3 hp4 hcb
        go_upto_region 9 with (fail)
        go_quiet (fail)
        go_upto_region 10 with (fail)
        generalize hW2 : W.drewN nq = W2
        have hB2 : Below W.heap.size W W2 := by rw [← hW2]; exact belowDrewN W _
        have H9 := Lib.hid (⟨H9.out.1.on hB2, (hB2.block g9 H9.out.2.1.lt).trans H9.out.2.1, H9.out.2.2.1, trivial⟩ : MtW w g3 g4 g6 ⟨ao, ar, av⟩ ⟨bo, br, bv⟩ W2 ∧ Blk W2 g9 31 #[.int .u32 (to_ : Int), .int .u64 (tr : Int), .int .i64 (tv : Int)] ∧ MtS (ls.take q) ⟨ao, ar, av⟩ true ⟨bo, br, bv⟩ ∧ True)
        clear hW2 hB2 k3r k3v k9o k9r k9v k6o k6r k6v f60 f61 f62 HPUT
        have k3r := H9.out.1.a3.cell 1
        have k3v := H9.out.1.a3.cell 2
        have k9o := H9.out.2.1.cell 0
        have k9r := H9.out.2.1.cell 1
        have k9v := H9.out.2.1.cell 2
        have f60 := H9.out.1.a6.frozen 0
        have f61 := H9.out.1.a6.frozen 1
        have f62 := H9.out.1.a6.frozen 2
        have k6o := H9.out.1.a6.cell 0
        have k6r := H9.out.1.a6.cell 1
        have k6v := H9.out.1.a6.cell 2
        have HPUT : Hid (MtW w g3 g4 g6 ⟨ao, ar, av⟩ ⟨to_, tr, tv⟩ (((W2.setCell ⟨g6, 0, none⟩ (.int .u32 (to_ : Int))).setCell ⟨g6, 1, none⟩ (.int .u64 (tr : Int))).setCell ⟨g6, 2, none⟩ (.int .i64 (tv : Int)))) := Lib.hid (H9.out.1.put (by have := HG.out; omega) (by have := HG.out; omega) (by have := HG.out; omega) ⟨to_, tr, tv⟩)
        go_quiet (fail)
        go_upto_region 11 with (fail)
        generalize hW2 : W2.drewN nq = W3
        have hB2 : Below W2.heap.size W2 W3 := by rw [← hW2]; exact belowDrewN W2 _
        have H9 := Lib.hid (⟨H9.out.1.on hB2, (hB2.block g9 H9.out.2.1.lt).trans H9.out.2.1, H9.out.2.2.1, trivial⟩ : MtW w g3 g4 g6 ⟨ao, ar, av⟩ ⟨bo, br, bv⟩ W3 ∧ Blk W3 g9 31 #[.int .u32 (to_ : Int), .int .u64 (tr : Int), .int .i64 (tv : Int)] ∧ MtS (ls.take q) ⟨ao, ar, av⟩ true ⟨bo, br, bv⟩ ∧ True)
        clear hW2 hB2 k3r k3v k9o k9r k9v k6o k6r k6v f60 f61 f62 HPUT
        have k3r := H9.out.1.a3.cell 1
        have k3v := H9.out.1.a3.cell 2
        have k9o := H9.out.2.1.cell 0
        have k9r := H9.out.2.1.cell 1
        have k9v := H9.out.2.1.cell 2
        have f60 := H9.out.1.a6.frozen 0
        have f61 := H9.out.1.a6.frozen 1
        have f62 := H9.out.1.a6.frozen 2
        have k6o := H9.out.1.a6.cell 0
        have k6r := H9.out.1.a6.cell 1
        have k6v := H9.out.1.a6.cell 2
        have HPUT : Hid (MtW w g3 g4 g6 ⟨ao, ar, av⟩ ⟨to_, tr, tv⟩ (((W3.setCell ⟨g6, 0, none⟩ (.int .u32 (to_ : Int))).setCell ⟨g6, 1, none⟩ (.int .u64 (tr : Int))).setCell ⟨g6, 2, none⟩ (.int .i64 (tv : Int)))) := Lib.hid (H9.out.1.put (by have := HG.out; omega) (by have := HG.out; omega) (by have := HG.out; omega) ⟨to_, tr, tv⟩)
        clear y39 y45 y50 y56 y40 y51
        by_cases hL1 : p1 * p2 < p3 * p4
        · rw [lessC_yes hL1] at HC1
          have HQ : Hid (p1 * p2 < p3 * p4) := Lib.hid hL1
          have HN : Hid (MtS (ls.take (q + 1)) ⟨ao, ar, av⟩ true ⟨to_, tr, tv⟩) := Lib.hid (by rw [HT.out]; exact mt_take H9.out.2.2.1 HCT.out (show betterL ⟨ao, ar, av⟩ ⟨to_, tr, tv⟩ ⟨bo, br, bv⟩ from (by have hq := HQ.out; have hz : p1 * p2 < p3 * p4 ∨ p1 * p2 = p3 * p4 ∧ (bv < tv ∨ tv = bv ∧ to_ < bo) := (by omega); rw [HP.out.1, HP.out.2.1, HP.out.2.2.1, HP.out.2.2.2] at hz; exact hz)))
          clear hL1 HC2
          go_wp2_with fail
          ((with_reducible refine (HC1.out _).mono ?_); rintro e w9 ⟨rfl, rfl⟩)
          go_wp2_with fail
          go_roundw
          case rel => exact ⟨q + 1, true, ⟨to_, tr, tv⟩, by omega, by go_num, rfl, Lib.hid ⟨HPUT.out, HN.out, HTI.out.1, HTI.out.2.1, HTI.out.2.2⟩⟩
          case measure => simp [intOf]; omega
        rw [lessC_no hL1] at HC1
        by_cases hL2 : p3 * p4 < p1 * p2
        · rw [lessC_yes hL2] at HC2
          have HQ : Hid (p3 * p4 < p1 * p2) := Lib.hid hL2
          have HN : Hid (MtS (ls.take (q + 1)) ⟨ao, ar, av⟩ true ⟨bo, br, bv⟩) := Lib.hid (by rw [HT.out]; exact mt_stay H9.out.2.2.1 (fun hb => by have hb : p1 * p2 < p3 * p4 ∨ p1 * p2 = p3 * p4 ∧ (bv < tv ∨ tv = bv ∧ to_ < bo) := (by rw [HP.out.1, HP.out.2.1, HP.out.2.2.1, HP.out.2.2.2]; exact hb); have hq := HQ.out; omega))
          clear hL1 hL2
          go_wp2_with fail
          ((with_reducible refine (HC1.out _).mono ?_); rintro e w9 ⟨rfl, rfl⟩)
          go_wp2_with fail
          ((with_reducible refine (HC2.out _).mono ?_); rintro e w9 ⟨rfl, rfl⟩)
          go_wp2_with fail
          go_roundw
          case rel => exact ⟨q + 1, true, ⟨bo, br, bv⟩, by omega, by go_num, rfl, Lib.hid ⟨H9.out.1, HN.out, HBI.out.1, HBI.out.2.1, HBI.out.2.2⟩⟩
          case measure => simp [intOf]; omega
        rw [lessC_no hL2] at HC2
        have hLE : p1 * p2 = p3 * p4 := by omega
        clear hL1 hL2
        by_cases hv1 : bv < tv
        · have HQ : Hid (p1 * p2 = p3 * p4 ∧ bv < tv) := Lib.hid ⟨hLE, hv1⟩
          have HN : Hid (MtS (ls.take (q + 1)) ⟨ao, ar, av⟩ true ⟨to_, tr, tv⟩) := Lib.hid (by rw [HT.out]; exact mt_take H9.out.2.2.1 HCT.out (show betterL ⟨ao, ar, av⟩ ⟨to_, tr, tv⟩ ⟨bo, br, bv⟩ from (by have hq := HQ.out; have hz : p1 * p2 < p3 * p4 ∨ p1 * p2 = p3 * p4 ∧ (bv < tv ∨ tv = bv ∧ to_ < bo) := (by omega); rw [HP.out.1, HP.out.2.1, HP.out.2.2.1, HP.out.2.2.2] at hz; exact hz)))
          have x1 : decide ((bv : Int) < (tv : Int)) = true := by simp; omega
          have x2 : (bv : Int) < (tv : Int) := by omega
          clear hLE
          go_wp2_with fail
          ((with_reducible refine (HC1.out _).mono ?_); rintro e w9 ⟨rfl, rfl⟩)
          go_wp2_with fail
          ((with_reducible refine (HC2.out _).mono ?_); rintro e w9 ⟨rfl, rfl⟩)
          go_wp2_with fail
          go_roundw
          case rel => exact ⟨q + 1, true, ⟨to_, tr, tv⟩, by omega, by go_num, rfl, Lib.hid ⟨HPUT.out, HN.out, HTI.out.1, HTI.out.2.1, HTI.out.2.2⟩⟩
          case measure => simp [intOf]; omega
        have x1 : decide ((bv : Int) < (tv : Int)) = false := by simp; omega
        have x2 : ¬ (bv : Int) < (tv : Int) := by omega
        by_cases hv2 : tv = bv
        · subst hv2
          by_cases ho : to_ < bo
          · have HQ : Hid (p1 * p2 = p3 * p4 ∧ to_ < bo) := Lib.hid ⟨hLE, ho⟩
            have HN : Hid (MtS (ls.take (q + 1)) ⟨ao, ar, av⟩ true ⟨to_, tr, tv⟩) := Lib.hid (by rw [HT.out]; exact mt_take H9.out.2.2.1 HCT.out (show betterL ⟨ao, ar, av⟩ ⟨to_, tr, tv⟩ ⟨bo, br, tv⟩ from (by have hq := HQ.out; have hz : p1 * p2 < p3 * p4 ∨ p1 * p2 = p3 * p4 ∧ (tv < tv ∨ tv = tv ∧ to_ < bo) := (by omega); rw [HP.out.1, HP.out.2.1, HP.out.2.2.1, HP.out.2.2.2] at hz; exact hz)))
            have x3 : decide ((to_ : Int) < (bo : Int)) = true := by simp; omega
            have x4 : (to_ : Int) < (bo : Int) := by omega
            clear hLE
            go_wp2_with fail
            ((with_reducible refine (HC1.out _).mono ?_); rintro e w9 ⟨rfl, rfl⟩)
            go_wp2_with fail
            ((with_reducible refine (HC2.out _).mono ?_); rintro e w9 ⟨rfl, rfl⟩)
            go_wp2_with fail
            go_roundw
            case rel => exact ⟨q + 1, true, ⟨to_, tr, tv⟩, by omega, by go_num, rfl, Lib.hid ⟨HPUT.out, HN.out, HTI.out.1, HTI.out.2.1, HTI.out.2.2⟩⟩
            case measure => simp [intOf]; omega
          · have HQ : Hid (p1 * p2 = p3 * p4 ∧ ¬ to_ < bo) := Lib.hid ⟨hLE, ho⟩
            have HN : Hid (MtS (ls.take (q + 1)) ⟨ao, ar, av⟩ true ⟨bo, br, tv⟩) := Lib.hid (by rw [HT.out]; exact mt_stay H9.out.2.2.1 (fun hb => by have hb : p1 * p2 < p3 * p4 ∨ p1 * p2 = p3 * p4 ∧ (tv < tv ∨ tv = tv ∧ to_ < bo) := (by rw [HP.out.1, HP.out.2.1, HP.out.2.2.1, HP.out.2.2.2]; exact hb); have hq := HQ.out; omega))
            have x3 : decide ((to_ : Int) < (bo : Int)) = false := by simp; omega
            have x4 : ¬ (to_ : Int) < (bo : Int) := by omega
            clear hLE
            go_wp2_with fail
            ((with_reducible refine (HC1.out _).mono ?_); rintro e w9 ⟨rfl, rfl⟩)
            go_wp2_with fail
            ((with_reducible refine (HC2.out _).mono ?_); rintro e w9 ⟨rfl, rfl⟩)
            go_wp2_with fail
            go_roundw
            case rel => exact ⟨q + 1, true, ⟨bo, br, tv⟩, by omega, by go_num, rfl, Lib.hid ⟨H9.out.1, HN.out, HBI.out.1, HBI.out.2.1, HBI.out.2.2⟩⟩
            case measure => simp [intOf]; omega
        · have HQ : Hid (p1 * p2 = p3 * p4 ∧ ¬ bv < tv ∧ ¬ tv = bv) := Lib.hid ⟨hLE, hv1, hv2⟩
          have HN : Hid (MtS (ls.take (q + 1)) ⟨ao, ar, av⟩ true ⟨bo, br, bv⟩) := Lib.hid (by rw [HT.out]; exact mt_stay H9.out.2.2.1 (fun hb => by have hb : p1 * p2 < p3 * p4 ∨ p1 * p2 = p3 * p4 ∧ (bv < tv ∨ tv = bv ∧ to_ < bo) := (by rw [HP.out.1, HP.out.2.1, HP.out.2.2.1, HP.out.2.2.2]; exact hb); have hq := HQ.out; omega))
          have x3 : ((tv : Int) == (bv : Int)) = false := by rw [beq_eq_false_iff_ne]; omega
          clear hLE
          go_wp2_with fail
          ((with_reducible refine (HC1.out _).mono ?_); rintro e w9 ⟨rfl, rfl⟩)
          go_wp2_with fail
          ((with_reducible refine (HC2.out _).mono ?_); rintro e w9 ⟨rfl, rfl⟩)
          go_wp2_with fail
          go_roundw
          case rel => exact ⟨q + 1, true, ⟨bo, br, bv⟩, by omega, by go_num, rfl, Lib.hid ⟨H9.out.1, HN.out, HBI.out.1, HBI.out.2.1, HBI.out.2.2⟩⟩
          case measure => simp [intOf]; omega
    · have hqn : q = n := by omega
      have HE : Hid (ls.take q = ls) := Lib.hid (List.take_of_length_le (by rw [HL.out]; omega))
      have z1 : ¬ (q : Int) < (n : Int) := by omega
      obtain ⟨bo, br, bv⟩ := b
      have hM := HM.out.1
      have k3r := hM.a3.cell 1
      have k3v := hM.a3.cell 2
      have k4o := hM.a4.cell 0
      have k4r := hM.a4.cell 1
      have k4v := hM.a4.cell 2
      have k6o := hM.a6.cell 0
      have k6r := hM.a6.cell 1
      have k6v := hM.a6.cell 2
      have f40 := hM.a4.frozen 0
      have f41 := hM.a4.frozen 1
      have f42 := hM.a4.frozen 2
      have HB := Lib.hid hM.below
      have hS := HM.out.2.1
      rw [HE.out] at hS
      have h4w : w.heap.size ≤ g4 := by have := HG.out; omega
      have H4W := Lib.hid h4w
      have HA4 := Lib.hid hM.a4
      obtain ⟨hb1, hb2, hb3⟩ := HM.out.2.2
      simp only at hb1 hb2 hb3
      clear hlt hqn hM HM h4w
      cases sm
      · have HS : Hid (∀ b, IsNext ls ⟨ao, ar, av⟩ b → ¬ above ⟨ao, ar, av⟩ b) := Lib.hid (fun b hb => absurd hb.2.1 ((show ∀ t ∈ ls, ¬ Cand ⟨ao, ar, av⟩ t from hS) b hb.1))
        clear hS
        go_wp2_with fail
        generalize hW9 : ((wr.setCell ⟨g4, 0, none⟩ (.int .u32 0)).setCell ⟨g4, 1, none⟩ (.int .u64 0)).setCell ⟨g4, 2, none⟩ (.int .i64 0) = W9
        have B9 : Blk W9 g4 31 #[.int .u32 0, .int .u64 0, .int .i64 0] := by rw [← hW9]; exact blk_put3 HA4.out _ _ _
        have HB9 : Hid (Below w.heap.size w W9) := Lib.hid (by rw [← hW9]; exact below_put3 HB.out H4W.out _ _ _)
        have r0 : W9.cell? ⟨g4, 0, none⟩ = some (.int .u32 0) := B9.cell 0
        have r1 : W9.cell? ⟨g4, 1, none⟩ = some (.int .u64 0) := B9.cell 1
        have r2 : W9.cell? ⟨g4, 2, none⟩ = some (.int .i64 0) := B9.cell 2
        refine bodyPost_ret (v := .tuple #[.agg #[.int .u32 0, .int .u64 0, .int .i64 0], .bool false]) (by simp [results, Try.results42, go_sem, r0, r1, r2]; try rfl) rfl ?_
        exact ⟨.inr ⟨HS.out, rfl⟩, HB9.out⟩
      · have HS : Hid (IsNext ls ⟨ao, ar, av⟩ ⟨bo, br, bv⟩) := Lib.hid hS
        have hcb : av < bv ∧ ar ≤ br := HS.out.2.1
        clear hS
        obtain ⟨p3, hp3⟩ : ∃ p3, p3 = br - ar := ⟨_, rfl⟩
        obtain ⟨p2, hp2⟩ : ∃ p2, p2 = bv - av := ⟨_, rfl⟩
        have y1 : (br : Int) - (ar : Int) = (p3 : Int) := by omega
        have y2 : (bv : Int) - (av : Int) = (p2 : Int) := by omega
        have hp3' : p3 ≤ 1099511627776 := by omega
        have hp2' : p2 ≤ 511 := by omega
        have HP := Lib.hid (⟨hp3, hp2⟩ : _ ∧ _)
        have HC := Lib.hid (ref_less (av : Int) (p3 : Int) (ar : Int) (p2 : Int) (by unfold I64; omega) (by unfold I64; omega) (by unfold I64; omega) (by unfold I64; omega))
        clear hp3 hp2 hcb
        go_wp2_with fail
        ((with_reducible refine (HC.out _).mono ?_); rintro e w9 ⟨rfl, rfl⟩)
        by_cases hL : av * p3 < ar * p2
        · rw [lessC_yes hL]
          have HAB : Hid (above ⟨ao, ar, av⟩ ⟨bo, br, bv⟩) := Lib.hid (by rw [HP.out.1, HP.out.2] at hL; exact hL)
          clear hL HC y1 y2
          go_wp2_with fail
          generalize hW9 : ((wr.setCell ⟨g4, 0, none⟩ (.int .u32 (bo : Int))).setCell ⟨g4, 1, none⟩ (.int .u64 (br : Int))).setCell ⟨g4, 2, none⟩ (.int .i64 (bv : Int)) = W9
          have B9 : Blk W9 g4 31 #[.int .u32 (bo : Int), .int .u64 (br : Int), .int .i64 (bv : Int)] := by rw [← hW9]; exact blk_put3 HA4.out _ _ _
          have HB9 : Hid (Below w.heap.size w W9) := Lib.hid (by rw [← hW9]; exact below_put3 HB.out H4W.out _ _ _)
          have r0 : W9.cell? ⟨g4, 0, none⟩ = some (.int .u32 (bo : Int)) := B9.cell 0
          have r1 : W9.cell? ⟨g4, 1, none⟩ = some (.int .u64 (br : Int)) := B9.cell 1
          have r2 : W9.cell? ⟨g4, 2, none⟩ = some (.int .i64 (bv : Int)) := B9.cell 2
          refine bodyPost_ret (v := .tuple #[.agg #[.int .u32 (bo : Int), .int .u64 (br : Int), .int .i64 (bv : Int)], .bool true]) (by simp [results, Try.results42, go_sem, r0, r1, r2]; try rfl) rfl ?_
          exact ⟨.inl ⟨⟨bo, br, bv⟩, HS.out, HAB.out, rfl⟩, HB9.out⟩
        · rw [lessC_no hL]
          have HS : Hid (∀ b, IsNext ls ⟨ao, ar, av⟩ b → ¬ above ⟨ao, ar, av⟩ b) := Lib.hid (fun b hb => by
            have e := next_one hb HS.out
            rw [e]
            rw [HP.out.1, HP.out.2] at hL
            exact hL)
          clear hL HC y1 y2
          go_wp2_with fail
          generalize hW9 : ((wr.setCell ⟨g4, 0, none⟩ (.int .u32 0)).setCell ⟨g4, 1, none⟩ (.int .u64 0)).setCell ⟨g4, 2, none⟩ (.int .i64 0) = W9
          have B9 : Blk W9 g4 31 #[.int .u32 0, .int .u64 0, .int .i64 0] := by rw [← hW9]; exact blk_put3 HA4.out _ _ _
          have HB9 : Hid (Below w.heap.size w W9) := Lib.hid (by rw [← hW9]; exact below_put3 HB.out H4W.out _ _ _)
          have r0 : W9.cell? ⟨g4, 0, none⟩ = some (.int .u32 0) := B9.cell 0
          have r1 : W9.cell? ⟨g4, 1, none⟩ = some (.int .u64 0) := B9.cell 1
          have r2 : W9.cell? ⟨g4, 2, none⟩ = some (.int .i64 0) := B9.cell 2
          refine bodyPost_ret (v := .tuple #[.agg #[.int .u32 0, .int .u64 0, .int .i64 0], .bool false]) (by simp [results, Try.results42, go_sem, r0, r1, r2]; try rfl) rfl ?_
          exact ⟨.inr ⟨HS.out, rfl⟩, HB9.out⟩
end Go.Proofs.Ytfijlgkgbbemnaa
