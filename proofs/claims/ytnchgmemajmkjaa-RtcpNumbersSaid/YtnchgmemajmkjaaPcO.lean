/- Contract: rtcp.readOne. -/
import Derived.Test.YtnchgmemajmkjaaMc
import Derived.Test.YtnchgmemajmkjaaPcF
import Derived.Test.YtnchgmemajmkjaaRcV
import Derived.Laws.BitsAllLaws
namespace Go.Proofs.Ytnchgmemajmkjaa
open Go.RowKit
set_option linter.unusedVariables false
set_option linter.unusedSimpArgs false
set_option maxRecDepth 20000

theorem and224 (x : Nat) (h : x < 256) : x &&& 224 = x / 32 * 32 := by
  have : ∀ y : Fin 256, y.val &&& 224 = y.val / 32 * 32 := by decide +kernel
  exact this ⟨x, h⟩
theorem andNot8 (x : Nat) (hx : x < 256) : bits .andNot .u8 (x : Int) 31 = ((x / 32 * 32 : Nat) : Int) := by
  have h := u8_andNot_nat x 31 hx (by omega)
  rw [show (255 - 31 : Nat) = 224 from rfl, and224 x hx] at h
  exact h
def shapeB (K : Int) (ws : List Nat) : Bool := if K = 1 ∨ K = 2 then prB ws else if K = 3 then decide (ws.length = 2) else if K = 4 then frB ws else if K = 5 then rmB ws else true
/-- Is it one of its kind, and may it be? -/
def okOne (x0 x1 : Nat) (ws : List Nat) : Bool := decide (x0 / 32 = 4) && (shapeB (kindTC x1 ((x0 % 32 : Nat) : Int)) ws && decide ((parseR x1 ((x0 % 32 : Nat) : Int) ws).err = 0))
/-- A report's slices lie in blocks of which Pb holds, below hi. -/
def Rv.LiesP (x : Rv) (Pb : Nat → Prop) (hi : Nat) : Prop := ∀ ad, (x.At = some ad ∨ x.Aa = some ad ∨ x.An = some ad ∨ x.Ab = some ad) → Pb ad.block ∧ ad.block < hi
def OneOut (w : World) (Pb : Nat → Prop) (r : Rep) (e : Ending) (w' : World) : Prop := ∃ x : Rv, e = .returned (.tuple #[x.val, .bool true]) ∧ x.r = r ∧ IsR w' w'.heap.size x ∧ x.LiesP Pb w'.heap.size ∧ Below w.heap.size w w'
def OneNo (w : World) (e : Ending) (w' : World) : Prop := e = .returned (.tuple #[.agg #[Value.int .i64 0, .int .u32 0, .int .u32 0, .slice none 0 0, .slice none 0 0, .slice none 0 0, .int .u64 0, .int .i64 0, .int .i64 0, .slice none 0 0], .bool false]) ∧ Below w.heap.size w w'
def OneRes (w : World) (Pb : Nat → Prop) (sh : Bool) (r : Rep) (e : Ending) (w' : World) : Prop := (sh = true ∧ r.err = 0 ∧ OneOut w Pb r e w') ∨ ((sh = false ∨ r.err ≠ 0) ∧ OneNo w e w')
theorem kindTC_cases (t c : Int) : (kindTC t c = 1 ∧ t = 205 ∧ c = 3) ∨ (kindTC t c = 2 ∧ t = 205 ∧ c = 4) ∨ (kindTC t c = 3 ∧ t = 206 ∧ c = 1) ∨ (kindTC t c = 4 ∧ t = 206 ∧ c = 4) ∨ (kindTC t c = 5 ∧ t = 206 ∧ c = 15) ∨ (kindTC t c = 6 ∧ oursTC t c = false) := by
  have h := kind_ours t c
  by_cases h6 : kindTC t c = 6
  · rw [decide_eq_true h6] at h
    exact .inr (.inr (.inr (.inr (.inr ⟨h6, by simpa using h.symm⟩))))
  · unfold kindTC at h6 ⊢
    by_cases a1 : t = 205 ∧ c = 3
    · exact .inl ⟨if_pos a1, a1⟩
    rw [if_neg a1] at h6 ⊢
    by_cases a2 : t = 205 ∧ c = 4
    · exact .inr (.inl ⟨if_pos a2, a2⟩)
    rw [if_neg a2] at h6 ⊢
    by_cases a3 : t = 206 ∧ c = 1
    · exact .inr (.inr (.inl ⟨if_pos a3, a3⟩))
    rw [if_neg a3] at h6 ⊢
    by_cases a4 : t = 206 ∧ c = 4
    · exact .inr (.inr (.inr (.inl ⟨if_pos a4, a4⟩)))
    rw [if_neg a4] at h6 ⊢
    by_cases a5 : t = 206 ∧ c = 15
    · exact .inr (.inr (.inr (.inr (.inl ⟨if_pos a5, a5⟩))))
    rw [if_neg a5] at h6
    exact absurd rfl h6
set_option maxHeartbeats 1000000 in
theorem readOne_head (X0 X1 : Nat) (A : Option Addr) (n c : Nat) (w : World) (h0 : X0 < 256) (hh : X0 / 32 ≠ 4) : Calls Try.prog 45 #[.int .u8 (X0 : Int), .int .u8 (X1 : Int), .slice A n c] w (OneNo w) := by
  have g : (bits .andNot .u8 (X0 : Int) 31 != 128) = true := by rw [andNot8 X0 h0]; simp; omega
  have hb := (Below.refl w.heap.size w).alloc (Nat.le_refl _) (.cells #[Value.int .i64 0, .int .u32 0, .int .u32 0, .slice none 0 0, .slice none 0 0, .slice none 0 0, .int .u64 0, .int .i64 0, .int .i64 0, .slice none 0 0] 33)
  clear hh
  go_enter Try.func45, Try.ntmps45
  go_wp2_with fail
  refine bodyPost_ret (v := .tuple #[.agg #[Value.int .i64 0, .int .u32 0, .int .u32 0, .slice none 0 0, .slice none 0 0, .slice none 0 0, .int .u64 0, .int .i64 0, .int .i64 0, .slice none 0 0], .bool false]) (by simp [results, Try.results45, go_sem]) rfl ?_
  exact ⟨rfl, hb⟩
set_option maxHeartbeats 4000000 in
theorem readOne_1 (X0 : Nat) (A : Option Addr) (n c : Nat) (ws : List Nat) (w : World) (Pb : Nat → Prop) (h0 : X0 < 256) (hh : X0 / 32 = 4) (hC : X0 % 32 = 3) (h : R8 w w.heap.size A n c (wB ws)) (hw : Small ws) (hn : n ≤ 1000000) (hlo : ∀ k, w.heap.size ≤ k → Pb k) (hA : ∀ ad, A = some ad → Pb ad.block ∧ ad.block < w.heap.size) :
    Calls Try.prog 45 #[.int .u8 (X0 : Int), .int .u8 205, .slice A n c] w (OneRes w Pb (shapeB 1 ws) (parseR 205 3 ws)) := by
  have g : (bits .andNot .u8 (X0 : Int) 31 != 128) = false := by rw [andNot8 X0 h0]; simp; omega
  have hCw : ((X0 : Int) % 32) = 3 := by omega
  have HCW := Lib.hid hCw
  have hC32 : X0 % 32 < 32 := by omega
  rw [hC] at hC32
  have hpr : parseR 205 3 ws = ⟨1, ws.getD 0 0, 0, tupsR ws, [], [], 0, 0, 0, []⟩ := rfl
  have hkt : kindTC 205 3 = 1 := rfl
  have hko := fun W => kindOf_any 205 3 W
  rw [hkt] at hko
  rw [hpr]
  have hb1 := (Below.refl w.heap.size w).alloc (Nat.le_refl _) (.cells #[Value.int .i64 0, .int .u32 0, .int .u32 0, .slice none 0 0, .slice none 0 0, .slice none 0 0, .int .u64 0, .int .i64 0, .int .i64 0, .slice none 0 0] 33)
  have hbV := hb1.alloc hb1.size (.cells #[Value.int .i64 1, .int .u32 0, .int .u32 0, .slice none 0 0, .slice none 0 0, .slice none 0 0, .int .u64 0, .int .i64 0, .int .i64 0, .slice none 0 0] 33)
  have hZ0 : Blk ((w.alloc (.cells #[Value.int .i64 0, .int .u32 0, .int .u32 0, .slice none 0 0, .slice none 0 0, .slice none 0 0, .int .u64 0, .int .i64 0, .int .i64 0, .slice none 0 0] 33)).alloc (.cells #[Value.int .i64 1, .int .u32 0, .int .u32 0, .slice none 0 0, .slice none 0 0, .slice none 0 0, .int .u64 0, .int .i64 0, .int .i64 0, .slice none 0 0] 33)) w.heap.size 33 #[Value.int .i64 0, .int .u32 0, .int .u32 0, .slice none 0 0, .slice none 0 0, .slice none 0 0, .int .u64 0, .int .i64 0, .int .i64 0, .slice none 0 0] := (Blk.new w _ _).alloc _
  have hZ1 : Blk ((w.alloc (.cells #[Value.int .i64 0, .int .u32 0, .int .u32 0, .slice none 0 0, .slice none 0 0, .slice none 0 0, .int .u64 0, .int .i64 0, .int .i64 0, .slice none 0 0] 33)).alloc (.cells #[Value.int .i64 1, .int .u32 0, .int .u32 0, .slice none 0 0, .slice none 0 0, .slice none 0 0, .int .u64 0, .int .i64 0, .int .i64 0, .slice none 0 0] 33)) (w.heap.size + 1) 33 (kindCells 1) := by
    have h1 := Blk.new (w.alloc (.cells #[Value.int .i64 0, .int .u32 0, .int .u32 0, .slice none 0 0, .slice none 0 0, .slice none 0 0, .int .u64 0, .int .i64 0, .int .i64 0, .slice none 0 0] 33)) 33 #[Value.int .i64 1, .int .u32 0, .int .u32 0, .slice none 0 0, .slice none 0 0, .slice none 0 0, .int .u64 0, .int .i64 0, .int .i64 0, .slice none 0 0]
    have h2 : (w.alloc (.cells #[Value.int .i64 0, .int .u32 0, .int .u32 0, .slice none 0 0, .slice none 0 0, .slice none 0 0, .int .u64 0, .int .i64 0, .int .i64 0, .slice none 0 0] 33)).heap.size = w.heap.size + 1 := by simp
    rwa [h2] at h1
  have hsV : ((w.alloc (.cells #[Value.int .i64 0, .int .u32 0, .int .u32 0, .slice none 0 0, .slice none 0 0, .slice none 0 0, .int .u64 0, .int .i64 0, .int .i64 0, .slice none 0 0] 33)).alloc (.cells #[Value.int .i64 1, .int .u32 0, .int .u32 0, .slice none 0 0, .slice none 0 0, .slice none 0 0, .int .u64 0, .int .i64 0, .int .i64 0, .slice none 0 0] 33)).heap.size = w.heap.size + 2 := by simp
  have hrV := h.on hbV
  clear hCw hkt hpr hb1 h hC
  go_enter Try.func45, Try.ntmps45
  go_upto_region 4 with (fail)
  rw [HCW.out]
  go_wp2_with fail
  ((with_reducible refine (hko _).mono ?_); rintro e w1 ⟨rfl, rfl⟩)
  clear hko g
  go_upto_region 6 with (fail)
  generalize ((w.alloc (.cells #[Value.int .i64 0, .int .u32 0, .int .u32 0, .slice none 0 0, .slice none 0 0, .slice none 0 0, .int .u64 0, .int .i64 0, .int .i64 0, .slice none 0 0] 33)).alloc (.cells #[Value.int .i64 1, .int .u32 0, .int .u32 0, .slice none 0 0, .slice none 0 0, .slice none 0 0, .int .u64 0, .int .i64 0, .int .i64 0, .slice none 0 0] 33)) = VV at hbV hZ0 hZ1 hsV hrV ⊢
  have HSV := Lib.hid hsV
  have hsv : w.heap.size + 1 < VV.heap.size := by omega
  clear hsV
  have hrw := readWords_any A n c ws VV hrV hw hn
  go_wp2_with fail
  ((with_reducible refine hrw.mono ?_); rintro e w2 ⟨Aw, cw, rfl, rW, b2, low⟩)
  have hZ0 := hZ0.below b2 (by omega)
  have hZ1 := hZ1.below b2 hsv
  have hs2 := b2.size
  have b2 := hbV.trans (b2.mono hbV.size)
  have hwl : ws.length ≤ 250000 := by have := hrV.1; rw [wB_len] at this; omega
  have HWL := Lib.hid hwl
  have hne : ∀ ad, Aw = some ad → ad.block ≠ w.heap.size + 1 := fun ad e => by have := (low ad e).1; omega
  have HNE := Lib.hid hne
  have q0 : w2.cell? ⟨w.heap.size + 1, 0, none⟩ = some (.int .i64 1) := (hZ1.cell 0).trans rfl
  clear hrw hbV hwl hne
  by_cases hsh : (prB ws) = true
  rotate_left
  · have hsh : (prB ws) = false := by simpa using hsh
    have HSH : Hid (shapeB 1 ws = false) := Lib.hid (by unfold shapeB; rw [if_pos (by omega)]; exact hsh)
    have hcall := readTuples_no Aw _ cw ws (w.heap.size + 1) w2 rW hsh
    go_wp2_with fail
    ((with_reducible refine hcall.mono ?_); rintro e w3 ⟨rfl, b3⟩)
    have hZ3 := hZ0.below b3 (by omega)
    clear hcall hsh
    clear q0
    have hb3 := b2.trans (b3.mono (by omega))
    clear rW hZ1 low hs2 b2
    obtain ⟨y0, y1, y2, y3, y4, y5, y6, y7, y8, y9⟩ := blk10 hZ3
    obtain ⟨z0, z1, z2, z3, z4, z5, z6, z7, z8, z9⟩ := frz10 hZ3
    go_wp2_with fail
    have hF := set10_blk (W := w3) (v0 := .int .i64 0) (v1 := .int .u32 0) (v2 := .int .u32 0) (v3 := .slice none 0 0) (v4 := .slice none 0 0) (v5 := .slice none 0 0) (v6 := .int .u64 0) (v7 := .int .i64 0) (v8 := .int .i64 0) (v9 := .slice none 0 0) hZ3
    have hG := hb3.trans (set10_below (W := w3) (R := w.heap.size) (v0 := .int .i64 0) (v1 := .int .u32 0) (v2 := .int .u32 0) (v3 := .slice none 0 0) (v4 := .slice none 0 0) (v5 := .slice none 0 0) (v6 := .int .u64 0) (v7 := .int .i64 0) (v8 := .int .i64 0) (v9 := .slice none 0 0) (Nat.le_refl _))
    change bodyPost _ _ _ _ _ (set10 w3 w.heap.size (.int .i64 0) (.int .u32 0) (.int .u32 0) (.slice none 0 0) (.slice none 0 0) (.slice none 0 0) (.int .u64 0) (.int .i64 0) (.int .i64 0) (.slice none 0 0))
    generalize set10 w3 w.heap.size (.int .i64 0) (.int .u32 0) (.int .u32 0) (.slice none 0 0) (.slice none 0 0) (.slice none 0 0) (.int .u64 0) (.int .i64 0) (.int .i64 0) (.slice none 0 0) = WF at hF hG ⊢
    clear y0 y1 y2 y3 y4 y5 y6 y7 y8 y9 z0 z1 z2 z3 z4 z5 z6 z7 z8 z9
    obtain ⟨f0, f1, f2, f3, f4, f5, f6, f7, f8, f9⟩ := blk10 hF
    refine bodyPost_ret (v := .tuple #[.agg #[Value.int .i64 0, .int .u32 0, .int .u32 0, .slice none 0 0, .slice none 0 0, .slice none 0 0, .int .u64 0, .int .i64 0, .int .i64 0, .slice none 0 0], .bool false]) (by simp [results, Try.results45, go_sem, f0, f1, f2, f3, f4, f5, f6, f7, f8, f9]) rfl ?_
    exact .inr ⟨.inl HSH.out, rfl, hG⟩
  have HSH : Hid (shapeB 1 ws = true) := Lib.hid (by unfold shapeB; rw [if_pos (by omega)]; exact hsh)
  have hcall := readTuples_yes Aw _ cw ws (w.heap.size + 1) 1 w2 rW HNE.out HWL.out hsh (.inl rfl) hZ1
  go_wp2_with fail
  ((with_reducible refine hcall.mono ?_); rintro e w3 ⟨x, rfl, hxr, hZx, hxi, hxl, b3⟩)
  have hZ3 := hZ0.below b3 (by omega)
  have hoff : x.Off w.heap.size := fun ad had e => by have := (hxl ad had).1; omega
  clear hcall hsh
  clear q0
  have hb3 := b2.trans (b3.mono (by omega))
  have HXR := Lib.hid hxr
  have hRt := RP.rtcp_Right x w3 hxi
  have hlies : x.LiesP Pb w3.heap.size := fun ad had => ⟨hlo _ (by have := (hxl ad had).1; omega), (hxl ad had).2⟩
  obtain ⟨⟨kr, sr, ar, tr, br, nr, rr, yr, cr, dr⟩, At, ct, Aa, ca, An, cn, Ab, cb⟩ := x
  simp only [Rv.val, Rv.cells] at hRt hZx hxr
  have hZx : Blk w3 (w.heap.size + 1) 33 #[.int .i64 kr, .int .u32 (sr : Int), .int .u32 (ar : Int), .slice At tr.length ct, .slice Aa br.length ca, .slice An nr.length cn, .int .u64 (rr : Int), .int .i64 yr, .int .i64 cr, .slice Ab dr.length cb] := hZx
  obtain ⟨p0, p1, p2, p3, p4, p5, p6, p7, p8, p9⟩ := blk10 hZx
  clear rW hZ1 low hs2 b2 b3 hxl
  generalize hER : Rep.err ⟨kr, sr, ar, tr, br, nr, rr, yr, cr, dr⟩ = er at hRt
  have HER := Lib.hid hER
  clear hER hxr
  go_wp2_with fail
  ((with_reducible refine hRt.mono ?_); rintro e w4 ⟨rfl, b4⟩)
  have hZ4 := hZ3.below b4 hZ3.lt
  have hZy := hZx.below b4 hZx.lt
  have hxi := hxi.on b4
  have hs4 := b4.size
  have hlies : Rv.LiesP ⟨⟨kr, sr, ar, tr, br, nr, rr, yr, cr, dr⟩, At, ct, Aa, ca, An, cn, Ab, cb⟩ Pb w4.heap.size := fun ad had => ⟨(hlies ad had).1, Nat.lt_of_lt_of_le (hlies ad had).2 hs4⟩
  have hofs : Rv.Off ⟨⟨kr, sr, ar, tr, br, nr, rr, yr, cr, dr⟩, At, ct, Aa, ca, An, cn, Ab, cb⟩ w.heap.size := hoff
  have hb4 := hb3.trans (b4.mono hb3.size)
  clear p0 p1 p2 p3 p4 p5 p6 p7 p8 p9 hRt hZx hb3 b4 hZ3 hoff
  obtain ⟨p0, p1, p2, p3, p4, p5, p6, p7, p8, p9⟩ := blk10 hZy
  obtain ⟨y0, y1, y2, y3, y4, y5, y6, y7, y8, y9⟩ := blk10 hZ4
  obtain ⟨z0, z1, z2, z3, z4, z5, z6, z7, z8, z9⟩ := frz10 hZ4
  by_cases he : er = 0
  rotate_left
  · have ge : (er != 0) = true := by simpa using he
    have HNE0 := Lib.hid he
    clear he
    clear p0 p1 p2 p3 p4 p5 p6 p7 p8 p9
    go_wp2_with fail
    have hF := set10_blk (W := w4) (v0 := .int .i64 0) (v1 := .int .u32 0) (v2 := .int .u32 0) (v3 := .slice none 0 0) (v4 := .slice none 0 0) (v5 := .slice none 0 0) (v6 := .int .u64 0) (v7 := .int .i64 0) (v8 := .int .i64 0) (v9 := .slice none 0 0) hZ4
    have hG := hb4.trans (set10_below (W := w4) (R := w.heap.size) (v0 := .int .i64 0) (v1 := .int .u32 0) (v2 := .int .u32 0) (v3 := .slice none 0 0) (v4 := .slice none 0 0) (v5 := .slice none 0 0) (v6 := .int .u64 0) (v7 := .int .i64 0) (v8 := .int .i64 0) (v9 := .slice none 0 0) (Nat.le_refl _))
    change bodyPost _ _ _ _ _ (set10 w4 w.heap.size (.int .i64 0) (.int .u32 0) (.int .u32 0) (.slice none 0 0) (.slice none 0 0) (.slice none 0 0) (.int .u64 0) (.int .i64 0) (.int .i64 0) (.slice none 0 0))
    generalize set10 w4 w.heap.size (.int .i64 0) (.int .u32 0) (.int .u32 0) (.slice none 0 0) (.slice none 0 0) (.slice none 0 0) (.int .u64 0) (.int .i64 0) (.int .i64 0) (.slice none 0 0) = WF at hF hG ⊢
    clear y0 y1 y2 y3 y4 y5 y6 y7 y8 y9 z0 z1 z2 z3 z4 z5 z6 z7 z8 z9
    obtain ⟨f0, f1, f2, f3, f4, f5, f6, f7, f8, f9⟩ := blk10 hF
    refine bodyPost_ret (v := .tuple #[.agg #[Value.int .i64 0, .int .u32 0, .int .u32 0, .slice none 0 0, .slice none 0 0, .slice none 0 0, .int .u64 0, .int .i64 0, .int .i64 0, .slice none 0 0], .bool false]) (by simp [results, Try.results45, go_sem, f0, f1, f2, f3, f4, f5, f6, f7, f8, f9]) rfl ?_
    exact .inr ⟨.inr (by rw [← HXR.out, HER.out]; exact HNE0.out), rfl, hG⟩
  subst he
  go_wp2_with fail
  have hF := set10_blk (W := w4) (v0 := .int .i64 kr) (v1 := .int .u32 (sr : Int)) (v2 := .int .u32 (ar : Int)) (v3 := .slice At tr.length ct) (v4 := .slice Aa br.length ca) (v5 := .slice An nr.length cn) (v6 := .int .u64 (rr : Int)) (v7 := .int .i64 yr) (v8 := .int .i64 cr) (v9 := .slice Ab dr.length cb) hZ4
  have hG := hb4.trans (set10_below (W := w4) (R := w.heap.size) (v0 := .int .i64 kr) (v1 := .int .u32 (sr : Int)) (v2 := .int .u32 (ar : Int)) (v3 := .slice At tr.length ct) (v4 := .slice Aa br.length ca) (v5 := .slice An nr.length cn) (v6 := .int .u64 (rr : Int)) (v7 := .int .i64 yr) (v8 := .int .i64 cr) (v9 := .slice Ab dr.length cb) (Nat.le_refl _))
  have hX := hxi.but (but_set10 w4 w.heap.size (.int .i64 kr) (.int .u32 (sr : Int)) (.int .u32 (ar : Int)) (.slice At tr.length ct) (.slice Aa br.length ca) (.slice An nr.length cn) (.int .u64 (rr : Int)) (.int .i64 yr) (.int .i64 cr) (.slice Ab dr.length cb)) hofs
  have hS : (set10 w4 w.heap.size (.int .i64 kr) (.int .u32 (sr : Int)) (.int .u32 (ar : Int)) (.slice At tr.length ct) (.slice Aa br.length ca) (.slice An nr.length cn) (.int .u64 (rr : Int)) (.int .i64 yr) (.int .i64 cr) (.slice Ab dr.length cb)).heap.size = w4.heap.size := set10_size
  rw [← hS] at hlies
  clear hS
  change bodyPost _ _ _ _ _ (set10 w4 w.heap.size (.int .i64 kr) (.int .u32 (sr : Int)) (.int .u32 (ar : Int)) (.slice At tr.length ct) (.slice Aa br.length ca) (.slice An nr.length cn) (.int .u64 (rr : Int)) (.int .i64 yr) (.int .i64 cr) (.slice Ab dr.length cb))
  generalize set10 w4 w.heap.size (.int .i64 kr) (.int .u32 (sr : Int)) (.int .u32 (ar : Int)) (.slice At tr.length ct) (.slice Aa br.length ca) (.slice An nr.length cn) (.int .u64 (rr : Int)) (.int .i64 yr) (.int .i64 cr) (.slice Ab dr.length cb) = WF at hF hG hX hlies ⊢
  clear p0 p1 p2 p3 p4 p5 p6 p7 p8 p9 y0 y1 y2 y3 y4 y5 y6 y7 y8 y9 z0 z1 z2 z3 z4 z5 z6 z7 z8 z9
  obtain ⟨f0, f1, f2, f3, f4, f5, f6, f7, f8, f9⟩ := blk10 hF
  refine bodyPost_ret (by simp [results, Try.results45, go_sem, f0, f1, f2, f3, f4, f5, f6, f7, f8, f9]; try rfl) rfl ?_
  exact .inl ⟨HSH.out, by rw [← HXR.out]; exact HER.out, ⟨⟨⟨kr, sr, ar, tr, br, nr, rr, yr, cr, dr⟩, At, ct, Aa, ca, An, cn, Ab, cb⟩, rfl, HXR.out, hX, hlies, hG⟩⟩
set_option maxHeartbeats 4000000 in
theorem readOne_2 (X0 : Nat) (A : Option Addr) (n c : Nat) (ws : List Nat) (w : World) (Pb : Nat → Prop) (h0 : X0 < 256) (hh : X0 / 32 = 4) (hC : X0 % 32 = 4) (h : R8 w w.heap.size A n c (wB ws)) (hw : Small ws) (hn : n ≤ 1000000) (hlo : ∀ k, w.heap.size ≤ k → Pb k) (hA : ∀ ad, A = some ad → Pb ad.block ∧ ad.block < w.heap.size) :
    Calls Try.prog 45 #[.int .u8 (X0 : Int), .int .u8 205, .slice A n c] w (OneRes w Pb (shapeB 2 ws) (parseR 205 4 ws)) := by
  have g : (bits .andNot .u8 (X0 : Int) 31 != 128) = false := by rw [andNot8 X0 h0]; simp; omega
  have hCw : ((X0 : Int) % 32) = 4 := by omega
  have HCW := Lib.hid hCw
  have hC32 : X0 % 32 < 32 := by omega
  rw [hC] at hC32
  have hpr : parseR 205 4 ws = ⟨2, ws.getD 0 0, 0, tupsR ws, [], [], 0, 0, 0, []⟩ := rfl
  have hkt : kindTC 205 4 = 2 := rfl
  have hko := fun W => kindOf_any 205 4 W
  rw [hkt] at hko
  rw [hpr]
  have hb1 := (Below.refl w.heap.size w).alloc (Nat.le_refl _) (.cells #[Value.int .i64 0, .int .u32 0, .int .u32 0, .slice none 0 0, .slice none 0 0, .slice none 0 0, .int .u64 0, .int .i64 0, .int .i64 0, .slice none 0 0] 33)
  have hbV := hb1.alloc hb1.size (.cells #[Value.int .i64 2, .int .u32 0, .int .u32 0, .slice none 0 0, .slice none 0 0, .slice none 0 0, .int .u64 0, .int .i64 0, .int .i64 0, .slice none 0 0] 33)
  have hZ0 : Blk ((w.alloc (.cells #[Value.int .i64 0, .int .u32 0, .int .u32 0, .slice none 0 0, .slice none 0 0, .slice none 0 0, .int .u64 0, .int .i64 0, .int .i64 0, .slice none 0 0] 33)).alloc (.cells #[Value.int .i64 2, .int .u32 0, .int .u32 0, .slice none 0 0, .slice none 0 0, .slice none 0 0, .int .u64 0, .int .i64 0, .int .i64 0, .slice none 0 0] 33)) w.heap.size 33 #[Value.int .i64 0, .int .u32 0, .int .u32 0, .slice none 0 0, .slice none 0 0, .slice none 0 0, .int .u64 0, .int .i64 0, .int .i64 0, .slice none 0 0] := (Blk.new w _ _).alloc _
  have hZ1 : Blk ((w.alloc (.cells #[Value.int .i64 0, .int .u32 0, .int .u32 0, .slice none 0 0, .slice none 0 0, .slice none 0 0, .int .u64 0, .int .i64 0, .int .i64 0, .slice none 0 0] 33)).alloc (.cells #[Value.int .i64 2, .int .u32 0, .int .u32 0, .slice none 0 0, .slice none 0 0, .slice none 0 0, .int .u64 0, .int .i64 0, .int .i64 0, .slice none 0 0] 33)) (w.heap.size + 1) 33 (kindCells 2) := by
    have h1 := Blk.new (w.alloc (.cells #[Value.int .i64 0, .int .u32 0, .int .u32 0, .slice none 0 0, .slice none 0 0, .slice none 0 0, .int .u64 0, .int .i64 0, .int .i64 0, .slice none 0 0] 33)) 33 #[Value.int .i64 2, .int .u32 0, .int .u32 0, .slice none 0 0, .slice none 0 0, .slice none 0 0, .int .u64 0, .int .i64 0, .int .i64 0, .slice none 0 0]
    have h2 : (w.alloc (.cells #[Value.int .i64 0, .int .u32 0, .int .u32 0, .slice none 0 0, .slice none 0 0, .slice none 0 0, .int .u64 0, .int .i64 0, .int .i64 0, .slice none 0 0] 33)).heap.size = w.heap.size + 1 := by simp
    rwa [h2] at h1
  have hsV : ((w.alloc (.cells #[Value.int .i64 0, .int .u32 0, .int .u32 0, .slice none 0 0, .slice none 0 0, .slice none 0 0, .int .u64 0, .int .i64 0, .int .i64 0, .slice none 0 0] 33)).alloc (.cells #[Value.int .i64 2, .int .u32 0, .int .u32 0, .slice none 0 0, .slice none 0 0, .slice none 0 0, .int .u64 0, .int .i64 0, .int .i64 0, .slice none 0 0] 33)).heap.size = w.heap.size + 2 := by simp
  have hrV := h.on hbV
  clear hCw hkt hpr hb1 h hC
  go_enter Try.func45, Try.ntmps45
  go_upto_region 4 with (fail)
  rw [HCW.out]
  go_wp2_with fail
  ((with_reducible refine (hko _).mono ?_); rintro e w1 ⟨rfl, rfl⟩)
  clear hko g
  go_upto_region 6 with (fail)
  generalize ((w.alloc (.cells #[Value.int .i64 0, .int .u32 0, .int .u32 0, .slice none 0 0, .slice none 0 0, .slice none 0 0, .int .u64 0, .int .i64 0, .int .i64 0, .slice none 0 0] 33)).alloc (.cells #[Value.int .i64 2, .int .u32 0, .int .u32 0, .slice none 0 0, .slice none 0 0, .slice none 0 0, .int .u64 0, .int .i64 0, .int .i64 0, .slice none 0 0] 33)) = VV at hbV hZ0 hZ1 hsV hrV ⊢
  have HSV := Lib.hid hsV
  have hsv : w.heap.size + 1 < VV.heap.size := by omega
  clear hsV
  have hrw := readWords_any A n c ws VV hrV hw hn
  go_wp2_with fail
  ((with_reducible refine hrw.mono ?_); rintro e w2 ⟨Aw, cw, rfl, rW, b2, low⟩)
  have hZ0 := hZ0.below b2 (by omega)
  have hZ1 := hZ1.below b2 hsv
  have hs2 := b2.size
  have b2 := hbV.trans (b2.mono hbV.size)
  have hwl : ws.length ≤ 250000 := by have := hrV.1; rw [wB_len] at this; omega
  have HWL := Lib.hid hwl
  have hne : ∀ ad, Aw = some ad → ad.block ≠ w.heap.size + 1 := fun ad e => by have := (low ad e).1; omega
  have HNE := Lib.hid hne
  have q0 : w2.cell? ⟨w.heap.size + 1, 0, none⟩ = some (.int .i64 2) := (hZ1.cell 0).trans rfl
  clear hrw hbV hwl hne
  by_cases hsh : (prB ws) = true
  rotate_left
  · have hsh : (prB ws) = false := by simpa using hsh
    have HSH : Hid (shapeB 2 ws = false) := Lib.hid (by unfold shapeB; rw [if_pos (by omega)]; exact hsh)
    have hcall := readTuples_no Aw _ cw ws (w.heap.size + 1) w2 rW hsh
    go_wp2_with fail
    ((with_reducible refine hcall.mono ?_); rintro e w3 ⟨rfl, b3⟩)
    have hZ3 := hZ0.below b3 (by omega)
    clear hcall hsh
    clear q0
    have hb3 := b2.trans (b3.mono (by omega))
    clear rW hZ1 low hs2 b2
    obtain ⟨y0, y1, y2, y3, y4, y5, y6, y7, y8, y9⟩ := blk10 hZ3
    obtain ⟨z0, z1, z2, z3, z4, z5, z6, z7, z8, z9⟩ := frz10 hZ3
    go_wp2_with fail
    have hF := set10_blk (W := w3) (v0 := .int .i64 0) (v1 := .int .u32 0) (v2 := .int .u32 0) (v3 := .slice none 0 0) (v4 := .slice none 0 0) (v5 := .slice none 0 0) (v6 := .int .u64 0) (v7 := .int .i64 0) (v8 := .int .i64 0) (v9 := .slice none 0 0) hZ3
    have hG := hb3.trans (set10_below (W := w3) (R := w.heap.size) (v0 := .int .i64 0) (v1 := .int .u32 0) (v2 := .int .u32 0) (v3 := .slice none 0 0) (v4 := .slice none 0 0) (v5 := .slice none 0 0) (v6 := .int .u64 0) (v7 := .int .i64 0) (v8 := .int .i64 0) (v9 := .slice none 0 0) (Nat.le_refl _))
    change bodyPost _ _ _ _ _ (set10 w3 w.heap.size (.int .i64 0) (.int .u32 0) (.int .u32 0) (.slice none 0 0) (.slice none 0 0) (.slice none 0 0) (.int .u64 0) (.int .i64 0) (.int .i64 0) (.slice none 0 0))
    generalize set10 w3 w.heap.size (.int .i64 0) (.int .u32 0) (.int .u32 0) (.slice none 0 0) (.slice none 0 0) (.slice none 0 0) (.int .u64 0) (.int .i64 0) (.int .i64 0) (.slice none 0 0) = WF at hF hG ⊢
    clear y0 y1 y2 y3 y4 y5 y6 y7 y8 y9 z0 z1 z2 z3 z4 z5 z6 z7 z8 z9
    obtain ⟨f0, f1, f2, f3, f4, f5, f6, f7, f8, f9⟩ := blk10 hF
    refine bodyPost_ret (v := .tuple #[.agg #[Value.int .i64 0, .int .u32 0, .int .u32 0, .slice none 0 0, .slice none 0 0, .slice none 0 0, .int .u64 0, .int .i64 0, .int .i64 0, .slice none 0 0], .bool false]) (by simp [results, Try.results45, go_sem, f0, f1, f2, f3, f4, f5, f6, f7, f8, f9]) rfl ?_
    exact .inr ⟨.inl HSH.out, rfl, hG⟩
  have HSH : Hid (shapeB 2 ws = true) := Lib.hid (by unfold shapeB; rw [if_pos (by omega)]; exact hsh)
  have hcall := readTuples_yes Aw _ cw ws (w.heap.size + 1) 2 w2 rW HNE.out HWL.out hsh (.inr rfl) hZ1
  go_wp2_with fail
  ((with_reducible refine hcall.mono ?_); rintro e w3 ⟨x, rfl, hxr, hZx, hxi, hxl, b3⟩)
  have hZ3 := hZ0.below b3 (by omega)
  have hoff : x.Off w.heap.size := fun ad had e => by have := (hxl ad had).1; omega
  clear hcall hsh
  clear q0
  have hb3 := b2.trans (b3.mono (by omega))
  have HXR := Lib.hid hxr
  have hRt := RP.rtcp_Right x w3 hxi
  have hlies : x.LiesP Pb w3.heap.size := fun ad had => ⟨hlo _ (by have := (hxl ad had).1; omega), (hxl ad had).2⟩
  obtain ⟨⟨kr, sr, ar, tr, br, nr, rr, yr, cr, dr⟩, At, ct, Aa, ca, An, cn, Ab, cb⟩ := x
  simp only [Rv.val, Rv.cells] at hRt hZx hxr
  have hZx : Blk w3 (w.heap.size + 1) 33 #[.int .i64 kr, .int .u32 (sr : Int), .int .u32 (ar : Int), .slice At tr.length ct, .slice Aa br.length ca, .slice An nr.length cn, .int .u64 (rr : Int), .int .i64 yr, .int .i64 cr, .slice Ab dr.length cb] := hZx
  obtain ⟨p0, p1, p2, p3, p4, p5, p6, p7, p8, p9⟩ := blk10 hZx
  clear rW hZ1 low hs2 b2 b3 hxl
  generalize hER : Rep.err ⟨kr, sr, ar, tr, br, nr, rr, yr, cr, dr⟩ = er at hRt
  have HER := Lib.hid hER
  clear hER hxr
  go_wp2_with fail
  ((with_reducible refine hRt.mono ?_); rintro e w4 ⟨rfl, b4⟩)
  have hZ4 := hZ3.below b4 hZ3.lt
  have hZy := hZx.below b4 hZx.lt
  have hxi := hxi.on b4
  have hs4 := b4.size
  have hlies : Rv.LiesP ⟨⟨kr, sr, ar, tr, br, nr, rr, yr, cr, dr⟩, At, ct, Aa, ca, An, cn, Ab, cb⟩ Pb w4.heap.size := fun ad had => ⟨(hlies ad had).1, Nat.lt_of_lt_of_le (hlies ad had).2 hs4⟩
  have hofs : Rv.Off ⟨⟨kr, sr, ar, tr, br, nr, rr, yr, cr, dr⟩, At, ct, Aa, ca, An, cn, Ab, cb⟩ w.heap.size := hoff
  have hb4 := hb3.trans (b4.mono hb3.size)
  clear p0 p1 p2 p3 p4 p5 p6 p7 p8 p9 hRt hZx hb3 b4 hZ3 hoff
  obtain ⟨p0, p1, p2, p3, p4, p5, p6, p7, p8, p9⟩ := blk10 hZy
  obtain ⟨y0, y1, y2, y3, y4, y5, y6, y7, y8, y9⟩ := blk10 hZ4
  obtain ⟨z0, z1, z2, z3, z4, z5, z6, z7, z8, z9⟩ := frz10 hZ4
  by_cases he : er = 0
  rotate_left
  · have ge : (er != 0) = true := by simpa using he
    have HNE0 := Lib.hid he
    clear he
    clear p0 p1 p2 p3 p4 p5 p6 p7 p8 p9
    go_wp2_with fail
    have hF := set10_blk (W := w4) (v0 := .int .i64 0) (v1 := .int .u32 0) (v2 := .int .u32 0) (v3 := .slice none 0 0) (v4 := .slice none 0 0) (v5 := .slice none 0 0) (v6 := .int .u64 0) (v7 := .int .i64 0) (v8 := .int .i64 0) (v9 := .slice none 0 0) hZ4
    have hG := hb4.trans (set10_below (W := w4) (R := w.heap.size) (v0 := .int .i64 0) (v1 := .int .u32 0) (v2 := .int .u32 0) (v3 := .slice none 0 0) (v4 := .slice none 0 0) (v5 := .slice none 0 0) (v6 := .int .u64 0) (v7 := .int .i64 0) (v8 := .int .i64 0) (v9 := .slice none 0 0) (Nat.le_refl _))
    change bodyPost _ _ _ _ _ (set10 w4 w.heap.size (.int .i64 0) (.int .u32 0) (.int .u32 0) (.slice none 0 0) (.slice none 0 0) (.slice none 0 0) (.int .u64 0) (.int .i64 0) (.int .i64 0) (.slice none 0 0))
    generalize set10 w4 w.heap.size (.int .i64 0) (.int .u32 0) (.int .u32 0) (.slice none 0 0) (.slice none 0 0) (.slice none 0 0) (.int .u64 0) (.int .i64 0) (.int .i64 0) (.slice none 0 0) = WF at hF hG ⊢
    clear y0 y1 y2 y3 y4 y5 y6 y7 y8 y9 z0 z1 z2 z3 z4 z5 z6 z7 z8 z9
    obtain ⟨f0, f1, f2, f3, f4, f5, f6, f7, f8, f9⟩ := blk10 hF
    refine bodyPost_ret (v := .tuple #[.agg #[Value.int .i64 0, .int .u32 0, .int .u32 0, .slice none 0 0, .slice none 0 0, .slice none 0 0, .int .u64 0, .int .i64 0, .int .i64 0, .slice none 0 0], .bool false]) (by simp [results, Try.results45, go_sem, f0, f1, f2, f3, f4, f5, f6, f7, f8, f9]) rfl ?_
    exact .inr ⟨.inr (by rw [← HXR.out, HER.out]; exact HNE0.out), rfl, hG⟩
  subst he
  go_wp2_with fail
  have hF := set10_blk (W := w4) (v0 := .int .i64 kr) (v1 := .int .u32 (sr : Int)) (v2 := .int .u32 (ar : Int)) (v3 := .slice At tr.length ct) (v4 := .slice Aa br.length ca) (v5 := .slice An nr.length cn) (v6 := .int .u64 (rr : Int)) (v7 := .int .i64 yr) (v8 := .int .i64 cr) (v9 := .slice Ab dr.length cb) hZ4
  have hG := hb4.trans (set10_below (W := w4) (R := w.heap.size) (v0 := .int .i64 kr) (v1 := .int .u32 (sr : Int)) (v2 := .int .u32 (ar : Int)) (v3 := .slice At tr.length ct) (v4 := .slice Aa br.length ca) (v5 := .slice An nr.length cn) (v6 := .int .u64 (rr : Int)) (v7 := .int .i64 yr) (v8 := .int .i64 cr) (v9 := .slice Ab dr.length cb) (Nat.le_refl _))
  have hX := hxi.but (but_set10 w4 w.heap.size (.int .i64 kr) (.int .u32 (sr : Int)) (.int .u32 (ar : Int)) (.slice At tr.length ct) (.slice Aa br.length ca) (.slice An nr.length cn) (.int .u64 (rr : Int)) (.int .i64 yr) (.int .i64 cr) (.slice Ab dr.length cb)) hofs
  have hS : (set10 w4 w.heap.size (.int .i64 kr) (.int .u32 (sr : Int)) (.int .u32 (ar : Int)) (.slice At tr.length ct) (.slice Aa br.length ca) (.slice An nr.length cn) (.int .u64 (rr : Int)) (.int .i64 yr) (.int .i64 cr) (.slice Ab dr.length cb)).heap.size = w4.heap.size := set10_size
  rw [← hS] at hlies
  clear hS
  change bodyPost _ _ _ _ _ (set10 w4 w.heap.size (.int .i64 kr) (.int .u32 (sr : Int)) (.int .u32 (ar : Int)) (.slice At tr.length ct) (.slice Aa br.length ca) (.slice An nr.length cn) (.int .u64 (rr : Int)) (.int .i64 yr) (.int .i64 cr) (.slice Ab dr.length cb))
  generalize set10 w4 w.heap.size (.int .i64 kr) (.int .u32 (sr : Int)) (.int .u32 (ar : Int)) (.slice At tr.length ct) (.slice Aa br.length ca) (.slice An nr.length cn) (.int .u64 (rr : Int)) (.int .i64 yr) (.int .i64 cr) (.slice Ab dr.length cb) = WF at hF hG hX hlies ⊢
  clear p0 p1 p2 p3 p4 p5 p6 p7 p8 p9 y0 y1 y2 y3 y4 y5 y6 y7 y8 y9 z0 z1 z2 z3 z4 z5 z6 z7 z8 z9
  obtain ⟨f0, f1, f2, f3, f4, f5, f6, f7, f8, f9⟩ := blk10 hF
  refine bodyPost_ret (by simp [results, Try.results45, go_sem, f0, f1, f2, f3, f4, f5, f6, f7, f8, f9]; try rfl) rfl ?_
  exact .inl ⟨HSH.out, by rw [← HXR.out]; exact HER.out, ⟨⟨⟨kr, sr, ar, tr, br, nr, rr, yr, cr, dr⟩, At, ct, Aa, ca, An, cn, Ab, cb⟩, rfl, HXR.out, hX, hlies, hG⟩⟩
set_option maxHeartbeats 4000000 in
theorem readOne_3 (X0 : Nat) (A : Option Addr) (n c : Nat) (ws : List Nat) (w : World) (Pb : Nat → Prop) (h0 : X0 < 256) (hh : X0 / 32 = 4) (hC : X0 % 32 = 1) (h : R8 w w.heap.size A n c (wB ws)) (hw : Small ws) (hn : n ≤ 1000000) (hlo : ∀ k, w.heap.size ≤ k → Pb k) (hA : ∀ ad, A = some ad → Pb ad.block ∧ ad.block < w.heap.size) :
    Calls Try.prog 45 #[.int .u8 (X0 : Int), .int .u8 206, .slice A n c] w (OneRes w Pb (shapeB 3 ws) (parseR 206 1 ws)) := by
  have g : (bits .andNot .u8 (X0 : Int) 31 != 128) = false := by rw [andNot8 X0 h0]; simp; omega
  have hCw : ((X0 : Int) % 32) = 1 := by omega
  have HCW := Lib.hid hCw
  have hC32 : X0 % 32 < 32 := by omega
  rw [hC] at hC32
  have hpr : parseR 206 1 ws = ⟨3, ws.getD 0 0, ws.getD 1 0, [], [], [], 0, 0, 0, []⟩ := rfl
  have hkt : kindTC 206 1 = 3 := rfl
  have hko := fun W => kindOf_any 206 1 W
  rw [hkt] at hko
  rw [hpr]
  have hb1 := (Below.refl w.heap.size w).alloc (Nat.le_refl _) (.cells #[Value.int .i64 0, .int .u32 0, .int .u32 0, .slice none 0 0, .slice none 0 0, .slice none 0 0, .int .u64 0, .int .i64 0, .int .i64 0, .slice none 0 0] 33)
  have hbV := hb1.alloc hb1.size (.cells #[Value.int .i64 3, .int .u32 0, .int .u32 0, .slice none 0 0, .slice none 0 0, .slice none 0 0, .int .u64 0, .int .i64 0, .int .i64 0, .slice none 0 0] 33)
  have hZ0 : Blk ((w.alloc (.cells #[Value.int .i64 0, .int .u32 0, .int .u32 0, .slice none 0 0, .slice none 0 0, .slice none 0 0, .int .u64 0, .int .i64 0, .int .i64 0, .slice none 0 0] 33)).alloc (.cells #[Value.int .i64 3, .int .u32 0, .int .u32 0, .slice none 0 0, .slice none 0 0, .slice none 0 0, .int .u64 0, .int .i64 0, .int .i64 0, .slice none 0 0] 33)) w.heap.size 33 #[Value.int .i64 0, .int .u32 0, .int .u32 0, .slice none 0 0, .slice none 0 0, .slice none 0 0, .int .u64 0, .int .i64 0, .int .i64 0, .slice none 0 0] := (Blk.new w _ _).alloc _
  have hZ1 : Blk ((w.alloc (.cells #[Value.int .i64 0, .int .u32 0, .int .u32 0, .slice none 0 0, .slice none 0 0, .slice none 0 0, .int .u64 0, .int .i64 0, .int .i64 0, .slice none 0 0] 33)).alloc (.cells #[Value.int .i64 3, .int .u32 0, .int .u32 0, .slice none 0 0, .slice none 0 0, .slice none 0 0, .int .u64 0, .int .i64 0, .int .i64 0, .slice none 0 0] 33)) (w.heap.size + 1) 33 (kindCells 3) := by
    have h1 := Blk.new (w.alloc (.cells #[Value.int .i64 0, .int .u32 0, .int .u32 0, .slice none 0 0, .slice none 0 0, .slice none 0 0, .int .u64 0, .int .i64 0, .int .i64 0, .slice none 0 0] 33)) 33 #[Value.int .i64 3, .int .u32 0, .int .u32 0, .slice none 0 0, .slice none 0 0, .slice none 0 0, .int .u64 0, .int .i64 0, .int .i64 0, .slice none 0 0]
    have h2 : (w.alloc (.cells #[Value.int .i64 0, .int .u32 0, .int .u32 0, .slice none 0 0, .slice none 0 0, .slice none 0 0, .int .u64 0, .int .i64 0, .int .i64 0, .slice none 0 0] 33)).heap.size = w.heap.size + 1 := by simp
    rwa [h2] at h1
  have hsV : ((w.alloc (.cells #[Value.int .i64 0, .int .u32 0, .int .u32 0, .slice none 0 0, .slice none 0 0, .slice none 0 0, .int .u64 0, .int .i64 0, .int .i64 0, .slice none 0 0] 33)).alloc (.cells #[Value.int .i64 3, .int .u32 0, .int .u32 0, .slice none 0 0, .slice none 0 0, .slice none 0 0, .int .u64 0, .int .i64 0, .int .i64 0, .slice none 0 0] 33)).heap.size = w.heap.size + 2 := by simp
  have hrV := h.on hbV
  clear hCw hkt hpr hb1 h hC
  go_enter Try.func45, Try.ntmps45
  go_upto_region 4 with (fail)
  rw [HCW.out]
  go_wp2_with fail
  ((with_reducible refine (hko _).mono ?_); rintro e w1 ⟨rfl, rfl⟩)
  clear hko g
  go_upto_region 6 with (fail)
  generalize ((w.alloc (.cells #[Value.int .i64 0, .int .u32 0, .int .u32 0, .slice none 0 0, .slice none 0 0, .slice none 0 0, .int .u64 0, .int .i64 0, .int .i64 0, .slice none 0 0] 33)).alloc (.cells #[Value.int .i64 3, .int .u32 0, .int .u32 0, .slice none 0 0, .slice none 0 0, .slice none 0 0, .int .u64 0, .int .i64 0, .int .i64 0, .slice none 0 0] 33)) = VV at hbV hZ0 hZ1 hsV hrV ⊢
  have HSV := Lib.hid hsV
  have hsv : w.heap.size + 1 < VV.heap.size := by omega
  clear hsV
  have hrw := readWords_any A n c ws VV hrV hw hn
  go_wp2_with fail
  ((with_reducible refine hrw.mono ?_); rintro e w2 ⟨Aw, cw, rfl, rW, b2, low⟩)
  have hZ0 := hZ0.below b2 (by omega)
  have hZ1 := hZ1.below b2 hsv
  have hs2 := b2.size
  have b2 := hbV.trans (b2.mono hbV.size)
  have hwl : ws.length ≤ 250000 := by have := hrV.1; rw [wB_len] at this; omega
  have HWL := Lib.hid hwl
  have hne : ∀ ad, Aw = some ad → ad.block ≠ w.heap.size + 1 := fun ad e => by have := (low ad e).1; omega
  have HNE := Lib.hid hne
  have q0 : w2.cell? ⟨w.heap.size + 1, 0, none⟩ = some (.int .i64 3) := (hZ1.cell 0).trans rfl
  clear hrw hbV hwl hne
  by_cases hsh : (decide (ws.length = 2)) = true
  rotate_left
  · have hsh : (decide (ws.length = 2)) = false := by simpa using hsh
    have HSH : Hid (shapeB 3 ws = false) := Lib.hid (by unfold shapeB; rw [if_neg (by omega), if_pos rfl]; exact hsh)
    have hcall := readPli_no Aw _ cw (w.heap.size + 1) w2 (by simpa using hsh)
    go_wp2_with fail
    ((with_reducible refine hcall.mono ?_); rintro e w3 ⟨rfl, b3⟩)
    have hZ3 := hZ0.below b3 (by omega)
    clear hcall hsh
    clear q0
    have hb3 := b2.trans (b3.mono (by omega))
    clear rW hZ1 low hs2 b2
    obtain ⟨y0, y1, y2, y3, y4, y5, y6, y7, y8, y9⟩ := blk10 hZ3
    obtain ⟨z0, z1, z2, z3, z4, z5, z6, z7, z8, z9⟩ := frz10 hZ3
    go_wp2_with fail
    have hF := set10_blk (W := w3) (v0 := .int .i64 0) (v1 := .int .u32 0) (v2 := .int .u32 0) (v3 := .slice none 0 0) (v4 := .slice none 0 0) (v5 := .slice none 0 0) (v6 := .int .u64 0) (v7 := .int .i64 0) (v8 := .int .i64 0) (v9 := .slice none 0 0) hZ3
    have hG := hb3.trans (set10_below (W := w3) (R := w.heap.size) (v0 := .int .i64 0) (v1 := .int .u32 0) (v2 := .int .u32 0) (v3 := .slice none 0 0) (v4 := .slice none 0 0) (v5 := .slice none 0 0) (v6 := .int .u64 0) (v7 := .int .i64 0) (v8 := .int .i64 0) (v9 := .slice none 0 0) (Nat.le_refl _))
    change bodyPost _ _ _ _ _ (set10 w3 w.heap.size (.int .i64 0) (.int .u32 0) (.int .u32 0) (.slice none 0 0) (.slice none 0 0) (.slice none 0 0) (.int .u64 0) (.int .i64 0) (.int .i64 0) (.slice none 0 0))
    generalize set10 w3 w.heap.size (.int .i64 0) (.int .u32 0) (.int .u32 0) (.slice none 0 0) (.slice none 0 0) (.slice none 0 0) (.int .u64 0) (.int .i64 0) (.int .i64 0) (.slice none 0 0) = WF at hF hG ⊢
    clear y0 y1 y2 y3 y4 y5 y6 y7 y8 y9 z0 z1 z2 z3 z4 z5 z6 z7 z8 z9
    obtain ⟨f0, f1, f2, f3, f4, f5, f6, f7, f8, f9⟩ := blk10 hF
    refine bodyPost_ret (v := .tuple #[.agg #[Value.int .i64 0, .int .u32 0, .int .u32 0, .slice none 0 0, .slice none 0 0, .slice none 0 0, .int .u64 0, .int .i64 0, .int .i64 0, .slice none 0 0], .bool false]) (by simp [results, Try.results45, go_sem, f0, f1, f2, f3, f4, f5, f6, f7, f8, f9]) rfl ?_
    exact .inr ⟨.inl HSH.out, rfl, hG⟩
  have HSH : Hid (shapeB 3 ws = true) := Lib.hid (by unfold shapeB; rw [if_neg (by omega), if_pos rfl]; exact hsh)
  have hl2 : ws.length = 2 := by simpa using hsh
  have rW2 : R32 w2 w2.heap.size Aw 2 cw ws := by rw [hl2] at rW; exact rW
  rw [hl2]
  clear hl2
  have hcall := readPli_yes Aw cw ws (w.heap.size + 1) w2 rW2 HNE.out hZ1
  go_wp2_with fail
  ((with_reducible refine hcall.mono ?_); rintro e w3 ⟨x, rfl, hxr, hZx, hxi, hxl, b3⟩)
  have hZ3 := hZ0.below b3 (by omega)
  have hoff : x.Off w.heap.size := fun ad had e => by have := (hxl ad had).1; omega
  clear hcall hsh
  clear rW2
  clear q0
  have hb3 := b2.trans (b3.mono (by omega))
  have HXR := Lib.hid hxr
  have hRt := RP.rtcp_Right x w3 hxi
  have hlies : x.LiesP Pb w3.heap.size := fun ad had => ⟨hlo _ (by have := (hxl ad had).1; omega), (hxl ad had).2⟩
  obtain ⟨⟨kr, sr, ar, tr, br, nr, rr, yr, cr, dr⟩, At, ct, Aa, ca, An, cn, Ab, cb⟩ := x
  simp only [Rv.val, Rv.cells] at hRt hZx hxr
  have hZx : Blk w3 (w.heap.size + 1) 33 #[.int .i64 kr, .int .u32 (sr : Int), .int .u32 (ar : Int), .slice At tr.length ct, .slice Aa br.length ca, .slice An nr.length cn, .int .u64 (rr : Int), .int .i64 yr, .int .i64 cr, .slice Ab dr.length cb] := hZx
  obtain ⟨p0, p1, p2, p3, p4, p5, p6, p7, p8, p9⟩ := blk10 hZx
  clear rW hZ1 low hs2 b2 b3 hxl
  generalize hER : Rep.err ⟨kr, sr, ar, tr, br, nr, rr, yr, cr, dr⟩ = er at hRt
  have HER := Lib.hid hER
  clear hER hxr
  go_wp2_with fail
  ((with_reducible refine hRt.mono ?_); rintro e w4 ⟨rfl, b4⟩)
  have hZ4 := hZ3.below b4 hZ3.lt
  have hZy := hZx.below b4 hZx.lt
  have hxi := hxi.on b4
  have hs4 := b4.size
  have hlies : Rv.LiesP ⟨⟨kr, sr, ar, tr, br, nr, rr, yr, cr, dr⟩, At, ct, Aa, ca, An, cn, Ab, cb⟩ Pb w4.heap.size := fun ad had => ⟨(hlies ad had).1, Nat.lt_of_lt_of_le (hlies ad had).2 hs4⟩
  have hofs : Rv.Off ⟨⟨kr, sr, ar, tr, br, nr, rr, yr, cr, dr⟩, At, ct, Aa, ca, An, cn, Ab, cb⟩ w.heap.size := hoff
  have hb4 := hb3.trans (b4.mono hb3.size)
  clear p0 p1 p2 p3 p4 p5 p6 p7 p8 p9 hRt hZx hb3 b4 hZ3 hoff
  obtain ⟨p0, p1, p2, p3, p4, p5, p6, p7, p8, p9⟩ := blk10 hZy
  obtain ⟨y0, y1, y2, y3, y4, y5, y6, y7, y8, y9⟩ := blk10 hZ4
  obtain ⟨z0, z1, z2, z3, z4, z5, z6, z7, z8, z9⟩ := frz10 hZ4
  by_cases he : er = 0
  rotate_left
  · have ge : (er != 0) = true := by simpa using he
    have HNE0 := Lib.hid he
    clear he
    clear p0 p1 p2 p3 p4 p5 p6 p7 p8 p9
    go_wp2_with fail
    have hF := set10_blk (W := w4) (v0 := .int .i64 0) (v1 := .int .u32 0) (v2 := .int .u32 0) (v3 := .slice none 0 0) (v4 := .slice none 0 0) (v5 := .slice none 0 0) (v6 := .int .u64 0) (v7 := .int .i64 0) (v8 := .int .i64 0) (v9 := .slice none 0 0) hZ4
    have hG := hb4.trans (set10_below (W := w4) (R := w.heap.size) (v0 := .int .i64 0) (v1 := .int .u32 0) (v2 := .int .u32 0) (v3 := .slice none 0 0) (v4 := .slice none 0 0) (v5 := .slice none 0 0) (v6 := .int .u64 0) (v7 := .int .i64 0) (v8 := .int .i64 0) (v9 := .slice none 0 0) (Nat.le_refl _))
    change bodyPost _ _ _ _ _ (set10 w4 w.heap.size (.int .i64 0) (.int .u32 0) (.int .u32 0) (.slice none 0 0) (.slice none 0 0) (.slice none 0 0) (.int .u64 0) (.int .i64 0) (.int .i64 0) (.slice none 0 0))
    generalize set10 w4 w.heap.size (.int .i64 0) (.int .u32 0) (.int .u32 0) (.slice none 0 0) (.slice none 0 0) (.slice none 0 0) (.int .u64 0) (.int .i64 0) (.int .i64 0) (.slice none 0 0) = WF at hF hG ⊢
    clear y0 y1 y2 y3 y4 y5 y6 y7 y8 y9 z0 z1 z2 z3 z4 z5 z6 z7 z8 z9
    obtain ⟨f0, f1, f2, f3, f4, f5, f6, f7, f8, f9⟩ := blk10 hF
    refine bodyPost_ret (v := .tuple #[.agg #[Value.int .i64 0, .int .u32 0, .int .u32 0, .slice none 0 0, .slice none 0 0, .slice none 0 0, .int .u64 0, .int .i64 0, .int .i64 0, .slice none 0 0], .bool false]) (by simp [results, Try.results45, go_sem, f0, f1, f2, f3, f4, f5, f6, f7, f8, f9]) rfl ?_
    exact .inr ⟨.inr (by rw [← HXR.out, HER.out]; exact HNE0.out), rfl, hG⟩
  subst he
  go_wp2_with fail
  have hF := set10_blk (W := w4) (v0 := .int .i64 kr) (v1 := .int .u32 (sr : Int)) (v2 := .int .u32 (ar : Int)) (v3 := .slice At tr.length ct) (v4 := .slice Aa br.length ca) (v5 := .slice An nr.length cn) (v6 := .int .u64 (rr : Int)) (v7 := .int .i64 yr) (v8 := .int .i64 cr) (v9 := .slice Ab dr.length cb) hZ4
  have hG := hb4.trans (set10_below (W := w4) (R := w.heap.size) (v0 := .int .i64 kr) (v1 := .int .u32 (sr : Int)) (v2 := .int .u32 (ar : Int)) (v3 := .slice At tr.length ct) (v4 := .slice Aa br.length ca) (v5 := .slice An nr.length cn) (v6 := .int .u64 (rr : Int)) (v7 := .int .i64 yr) (v8 := .int .i64 cr) (v9 := .slice Ab dr.length cb) (Nat.le_refl _))
  have hX := hxi.but (but_set10 w4 w.heap.size (.int .i64 kr) (.int .u32 (sr : Int)) (.int .u32 (ar : Int)) (.slice At tr.length ct) (.slice Aa br.length ca) (.slice An nr.length cn) (.int .u64 (rr : Int)) (.int .i64 yr) (.int .i64 cr) (.slice Ab dr.length cb)) hofs
  have hS : (set10 w4 w.heap.size (.int .i64 kr) (.int .u32 (sr : Int)) (.int .u32 (ar : Int)) (.slice At tr.length ct) (.slice Aa br.length ca) (.slice An nr.length cn) (.int .u64 (rr : Int)) (.int .i64 yr) (.int .i64 cr) (.slice Ab dr.length cb)).heap.size = w4.heap.size := set10_size
  rw [← hS] at hlies
  clear hS
  change bodyPost _ _ _ _ _ (set10 w4 w.heap.size (.int .i64 kr) (.int .u32 (sr : Int)) (.int .u32 (ar : Int)) (.slice At tr.length ct) (.slice Aa br.length ca) (.slice An nr.length cn) (.int .u64 (rr : Int)) (.int .i64 yr) (.int .i64 cr) (.slice Ab dr.length cb))
  generalize set10 w4 w.heap.size (.int .i64 kr) (.int .u32 (sr : Int)) (.int .u32 (ar : Int)) (.slice At tr.length ct) (.slice Aa br.length ca) (.slice An nr.length cn) (.int .u64 (rr : Int)) (.int .i64 yr) (.int .i64 cr) (.slice Ab dr.length cb) = WF at hF hG hX hlies ⊢
  clear p0 p1 p2 p3 p4 p5 p6 p7 p8 p9 y0 y1 y2 y3 y4 y5 y6 y7 y8 y9 z0 z1 z2 z3 z4 z5 z6 z7 z8 z9
  obtain ⟨f0, f1, f2, f3, f4, f5, f6, f7, f8, f9⟩ := blk10 hF
  refine bodyPost_ret (by simp [results, Try.results45, go_sem, f0, f1, f2, f3, f4, f5, f6, f7, f8, f9]; try rfl) rfl ?_
  exact .inl ⟨HSH.out, by rw [← HXR.out]; exact HER.out, ⟨⟨⟨kr, sr, ar, tr, br, nr, rr, yr, cr, dr⟩, At, ct, Aa, ca, An, cn, Ab, cb⟩, rfl, HXR.out, hX, hlies, hG⟩⟩
set_option maxHeartbeats 4000000 in
theorem readOne_4 (X0 : Nat) (A : Option Addr) (n c : Nat) (ws : List Nat) (w : World) (Pb : Nat → Prop) (h0 : X0 < 256) (hh : X0 / 32 = 4) (hC : X0 % 32 = 4) (h : R8 w w.heap.size A n c (wB ws)) (hw : Small ws) (hn : n ≤ 1000000) (hlo : ∀ k, w.heap.size ≤ k → Pb k) (hA : ∀ ad, A = some ad → Pb ad.block ∧ ad.block < w.heap.size) :
    Calls Try.prog 45 #[.int .u8 (X0 : Int), .int .u8 206, .slice A n c] w (OneRes w Pb (shapeB 4 ws) (parseR 206 4 ws)) := by
  have g : (bits .andNot .u8 (X0 : Int) 31 != 128) = false := by rw [andNot8 X0 h0]; simp; omega
  have hCw : ((X0 : Int) % 32) = 4 := by omega
  have HCW := Lib.hid hCw
  have hC32 : X0 % 32 < 32 := by omega
  rw [hC] at hC32
  have hpr : parseR 206 4 ws = ⟨4, ws.getD 0 0, 0, [], absR ws, numsR ws, 0, 0, 0, []⟩ := rfl
  have hkt : kindTC 206 4 = 4 := rfl
  have hko := fun W => kindOf_any 206 4 W
  rw [hkt] at hko
  rw [hpr]
  have hb1 := (Below.refl w.heap.size w).alloc (Nat.le_refl _) (.cells #[Value.int .i64 0, .int .u32 0, .int .u32 0, .slice none 0 0, .slice none 0 0, .slice none 0 0, .int .u64 0, .int .i64 0, .int .i64 0, .slice none 0 0] 33)
  have hbV := hb1.alloc hb1.size (.cells #[Value.int .i64 4, .int .u32 0, .int .u32 0, .slice none 0 0, .slice none 0 0, .slice none 0 0, .int .u64 0, .int .i64 0, .int .i64 0, .slice none 0 0] 33)
  have hZ0 : Blk ((w.alloc (.cells #[Value.int .i64 0, .int .u32 0, .int .u32 0, .slice none 0 0, .slice none 0 0, .slice none 0 0, .int .u64 0, .int .i64 0, .int .i64 0, .slice none 0 0] 33)).alloc (.cells #[Value.int .i64 4, .int .u32 0, .int .u32 0, .slice none 0 0, .slice none 0 0, .slice none 0 0, .int .u64 0, .int .i64 0, .int .i64 0, .slice none 0 0] 33)) w.heap.size 33 #[Value.int .i64 0, .int .u32 0, .int .u32 0, .slice none 0 0, .slice none 0 0, .slice none 0 0, .int .u64 0, .int .i64 0, .int .i64 0, .slice none 0 0] := (Blk.new w _ _).alloc _
  have hZ1 : Blk ((w.alloc (.cells #[Value.int .i64 0, .int .u32 0, .int .u32 0, .slice none 0 0, .slice none 0 0, .slice none 0 0, .int .u64 0, .int .i64 0, .int .i64 0, .slice none 0 0] 33)).alloc (.cells #[Value.int .i64 4, .int .u32 0, .int .u32 0, .slice none 0 0, .slice none 0 0, .slice none 0 0, .int .u64 0, .int .i64 0, .int .i64 0, .slice none 0 0] 33)) (w.heap.size + 1) 33 (kindCells 4) := by
    have h1 := Blk.new (w.alloc (.cells #[Value.int .i64 0, .int .u32 0, .int .u32 0, .slice none 0 0, .slice none 0 0, .slice none 0 0, .int .u64 0, .int .i64 0, .int .i64 0, .slice none 0 0] 33)) 33 #[Value.int .i64 4, .int .u32 0, .int .u32 0, .slice none 0 0, .slice none 0 0, .slice none 0 0, .int .u64 0, .int .i64 0, .int .i64 0, .slice none 0 0]
    have h2 : (w.alloc (.cells #[Value.int .i64 0, .int .u32 0, .int .u32 0, .slice none 0 0, .slice none 0 0, .slice none 0 0, .int .u64 0, .int .i64 0, .int .i64 0, .slice none 0 0] 33)).heap.size = w.heap.size + 1 := by simp
    rwa [h2] at h1
  have hsV : ((w.alloc (.cells #[Value.int .i64 0, .int .u32 0, .int .u32 0, .slice none 0 0, .slice none 0 0, .slice none 0 0, .int .u64 0, .int .i64 0, .int .i64 0, .slice none 0 0] 33)).alloc (.cells #[Value.int .i64 4, .int .u32 0, .int .u32 0, .slice none 0 0, .slice none 0 0, .slice none 0 0, .int .u64 0, .int .i64 0, .int .i64 0, .slice none 0 0] 33)).heap.size = w.heap.size + 2 := by simp
  have hrV := h.on hbV
  clear hCw hkt hpr hb1 h hC
  go_enter Try.func45, Try.ntmps45
  go_upto_region 4 with (fail)
  rw [HCW.out]
  go_wp2_with fail
  ((with_reducible refine (hko _).mono ?_); rintro e w1 ⟨rfl, rfl⟩)
  clear hko g
  go_upto_region 6 with (fail)
  generalize ((w.alloc (.cells #[Value.int .i64 0, .int .u32 0, .int .u32 0, .slice none 0 0, .slice none 0 0, .slice none 0 0, .int .u64 0, .int .i64 0, .int .i64 0, .slice none 0 0] 33)).alloc (.cells #[Value.int .i64 4, .int .u32 0, .int .u32 0, .slice none 0 0, .slice none 0 0, .slice none 0 0, .int .u64 0, .int .i64 0, .int .i64 0, .slice none 0 0] 33)) = VV at hbV hZ0 hZ1 hsV hrV ⊢
  have HSV := Lib.hid hsV
  have hsv : w.heap.size + 1 < VV.heap.size := by omega
  clear hsV
  have hrw := readWords_any A n c ws VV hrV hw hn
  go_wp2_with fail
  ((with_reducible refine hrw.mono ?_); rintro e w2 ⟨Aw, cw, rfl, rW, b2, low⟩)
  have hZ0 := hZ0.below b2 (by omega)
  have hZ1 := hZ1.below b2 hsv
  have hs2 := b2.size
  have b2 := hbV.trans (b2.mono hbV.size)
  have hwl : ws.length ≤ 250000 := by have := hrV.1; rw [wB_len] at this; omega
  have HWL := Lib.hid hwl
  have hne : ∀ ad, Aw = some ad → ad.block ≠ w.heap.size + 1 := fun ad e => by have := (low ad e).1; omega
  have HNE := Lib.hid hne
  have q0 : w2.cell? ⟨w.heap.size + 1, 0, none⟩ = some (.int .i64 4) := (hZ1.cell 0).trans rfl
  clear hrw hbV hwl hne
  have hcall := readFir_any Aw _ cw ws (w.heap.size + 1) w2 rW HNE.out HWL.out hZ1
  go_wp2_with fail
  ((with_reducible refine hcall.mono ?_); rintro e w3 (⟨hsh, x, rfl, hxr, hZx, hxi, hxl, b3⟩ | ⟨hsh, rfl, b3⟩))
  · have HSH : Hid (shapeB 4 ws = true) := Lib.hid (by unfold shapeB; rw [if_neg (by omega), if_neg (by omega), if_pos rfl]; exact hsh)
    clear hcall hsh
    have hZ3 := hZ0.below b3 (by omega)
    have hoff : x.Off w.heap.size := fun ad had e => by have := (hxl ad had).1; omega
    clear q0
    have hb3 := b2.trans (b3.mono (by omega))
    have HXR := Lib.hid hxr
    have hRt := RP.rtcp_Right x w3 hxi
    have hlies : x.LiesP Pb w3.heap.size := fun ad had => ⟨hlo _ (by have := (hxl ad had).1; omega), (hxl ad had).2⟩
    obtain ⟨⟨kr, sr, ar, tr, br, nr, rr, yr, cr, dr⟩, At, ct, Aa, ca, An, cn, Ab, cb⟩ := x
    simp only [Rv.val, Rv.cells] at hRt hZx hxr
    have hZx : Blk w3 (w.heap.size + 1) 33 #[.int .i64 kr, .int .u32 (sr : Int), .int .u32 (ar : Int), .slice At tr.length ct, .slice Aa br.length ca, .slice An nr.length cn, .int .u64 (rr : Int), .int .i64 yr, .int .i64 cr, .slice Ab dr.length cb] := hZx
    obtain ⟨p0, p1, p2, p3, p4, p5, p6, p7, p8, p9⟩ := blk10 hZx
    clear rW hZ1 low hs2 b2 b3 hxl
    generalize hER : Rep.err ⟨kr, sr, ar, tr, br, nr, rr, yr, cr, dr⟩ = er at hRt
    have HER := Lib.hid hER
    clear hER hxr
    go_wp2_with fail
    ((with_reducible refine hRt.mono ?_); rintro e w4 ⟨rfl, b4⟩)
    have hZ4 := hZ3.below b4 hZ3.lt
    have hZy := hZx.below b4 hZx.lt
    have hxi := hxi.on b4
    have hs4 := b4.size
    have hlies : Rv.LiesP ⟨⟨kr, sr, ar, tr, br, nr, rr, yr, cr, dr⟩, At, ct, Aa, ca, An, cn, Ab, cb⟩ Pb w4.heap.size := fun ad had => ⟨(hlies ad had).1, Nat.lt_of_lt_of_le (hlies ad had).2 hs4⟩
    have hofs : Rv.Off ⟨⟨kr, sr, ar, tr, br, nr, rr, yr, cr, dr⟩, At, ct, Aa, ca, An, cn, Ab, cb⟩ w.heap.size := hoff
    have hb4 := hb3.trans (b4.mono hb3.size)
    clear p0 p1 p2 p3 p4 p5 p6 p7 p8 p9 hRt hZx hb3 b4 hZ3 hoff
    obtain ⟨p0, p1, p2, p3, p4, p5, p6, p7, p8, p9⟩ := blk10 hZy
    obtain ⟨y0, y1, y2, y3, y4, y5, y6, y7, y8, y9⟩ := blk10 hZ4
    obtain ⟨z0, z1, z2, z3, z4, z5, z6, z7, z8, z9⟩ := frz10 hZ4
    by_cases he : er = 0
    rotate_left
    · have ge : (er != 0) = true := by simpa using he
      have HNE0 := Lib.hid he
      clear he
      clear p0 p1 p2 p3 p4 p5 p6 p7 p8 p9
      go_wp2_with fail
      have hF := set10_blk (W := w4) (v0 := .int .i64 0) (v1 := .int .u32 0) (v2 := .int .u32 0) (v3 := .slice none 0 0) (v4 := .slice none 0 0) (v5 := .slice none 0 0) (v6 := .int .u64 0) (v7 := .int .i64 0) (v8 := .int .i64 0) (v9 := .slice none 0 0) hZ4
      have hG := hb4.trans (set10_below (W := w4) (R := w.heap.size) (v0 := .int .i64 0) (v1 := .int .u32 0) (v2 := .int .u32 0) (v3 := .slice none 0 0) (v4 := .slice none 0 0) (v5 := .slice none 0 0) (v6 := .int .u64 0) (v7 := .int .i64 0) (v8 := .int .i64 0) (v9 := .slice none 0 0) (Nat.le_refl _))
      change bodyPost _ _ _ _ _ (set10 w4 w.heap.size (.int .i64 0) (.int .u32 0) (.int .u32 0) (.slice none 0 0) (.slice none 0 0) (.slice none 0 0) (.int .u64 0) (.int .i64 0) (.int .i64 0) (.slice none 0 0))
      generalize set10 w4 w.heap.size (.int .i64 0) (.int .u32 0) (.int .u32 0) (.slice none 0 0) (.slice none 0 0) (.slice none 0 0) (.int .u64 0) (.int .i64 0) (.int .i64 0) (.slice none 0 0) = WF at hF hG ⊢
      clear y0 y1 y2 y3 y4 y5 y6 y7 y8 y9 z0 z1 z2 z3 z4 z5 z6 z7 z8 z9
      obtain ⟨f0, f1, f2, f3, f4, f5, f6, f7, f8, f9⟩ := blk10 hF
      refine bodyPost_ret (v := .tuple #[.agg #[Value.int .i64 0, .int .u32 0, .int .u32 0, .slice none 0 0, .slice none 0 0, .slice none 0 0, .int .u64 0, .int .i64 0, .int .i64 0, .slice none 0 0], .bool false]) (by simp [results, Try.results45, go_sem, f0, f1, f2, f3, f4, f5, f6, f7, f8, f9]) rfl ?_
      exact .inr ⟨.inr (by rw [← HXR.out, HER.out]; exact HNE0.out), rfl, hG⟩
    subst he
    go_wp2_with fail
    have hF := set10_blk (W := w4) (v0 := .int .i64 kr) (v1 := .int .u32 (sr : Int)) (v2 := .int .u32 (ar : Int)) (v3 := .slice At tr.length ct) (v4 := .slice Aa br.length ca) (v5 := .slice An nr.length cn) (v6 := .int .u64 (rr : Int)) (v7 := .int .i64 yr) (v8 := .int .i64 cr) (v9 := .slice Ab dr.length cb) hZ4
    have hG := hb4.trans (set10_below (W := w4) (R := w.heap.size) (v0 := .int .i64 kr) (v1 := .int .u32 (sr : Int)) (v2 := .int .u32 (ar : Int)) (v3 := .slice At tr.length ct) (v4 := .slice Aa br.length ca) (v5 := .slice An nr.length cn) (v6 := .int .u64 (rr : Int)) (v7 := .int .i64 yr) (v8 := .int .i64 cr) (v9 := .slice Ab dr.length cb) (Nat.le_refl _))
    have hX := hxi.but (but_set10 w4 w.heap.size (.int .i64 kr) (.int .u32 (sr : Int)) (.int .u32 (ar : Int)) (.slice At tr.length ct) (.slice Aa br.length ca) (.slice An nr.length cn) (.int .u64 (rr : Int)) (.int .i64 yr) (.int .i64 cr) (.slice Ab dr.length cb)) hofs
    have hS : (set10 w4 w.heap.size (.int .i64 kr) (.int .u32 (sr : Int)) (.int .u32 (ar : Int)) (.slice At tr.length ct) (.slice Aa br.length ca) (.slice An nr.length cn) (.int .u64 (rr : Int)) (.int .i64 yr) (.int .i64 cr) (.slice Ab dr.length cb)).heap.size = w4.heap.size := set10_size
    rw [← hS] at hlies
    clear hS
    change bodyPost _ _ _ _ _ (set10 w4 w.heap.size (.int .i64 kr) (.int .u32 (sr : Int)) (.int .u32 (ar : Int)) (.slice At tr.length ct) (.slice Aa br.length ca) (.slice An nr.length cn) (.int .u64 (rr : Int)) (.int .i64 yr) (.int .i64 cr) (.slice Ab dr.length cb))
    generalize set10 w4 w.heap.size (.int .i64 kr) (.int .u32 (sr : Int)) (.int .u32 (ar : Int)) (.slice At tr.length ct) (.slice Aa br.length ca) (.slice An nr.length cn) (.int .u64 (rr : Int)) (.int .i64 yr) (.int .i64 cr) (.slice Ab dr.length cb) = WF at hF hG hX hlies ⊢
    clear p0 p1 p2 p3 p4 p5 p6 p7 p8 p9 y0 y1 y2 y3 y4 y5 y6 y7 y8 y9 z0 z1 z2 z3 z4 z5 z6 z7 z8 z9
    obtain ⟨f0, f1, f2, f3, f4, f5, f6, f7, f8, f9⟩ := blk10 hF
    refine bodyPost_ret (by simp [results, Try.results45, go_sem, f0, f1, f2, f3, f4, f5, f6, f7, f8, f9]; try rfl) rfl ?_
    exact .inl ⟨HSH.out, by rw [← HXR.out]; exact HER.out, ⟨⟨⟨kr, sr, ar, tr, br, nr, rr, yr, cr, dr⟩, At, ct, Aa, ca, An, cn, Ab, cb⟩, rfl, HXR.out, hX, hlies, hG⟩⟩
  · have HSH : Hid (shapeB 4 ws = false) := Lib.hid (by unfold shapeB; rw [if_neg (by omega), if_neg (by omega), if_pos rfl]; exact hsh)
    clear hcall hsh
    have hZ3 := hZ0.below b3 (by omega)
    clear q0
    have hb3 := b2.trans (b3.mono (by omega))
    clear rW hZ1 low hs2 b2
    obtain ⟨y0, y1, y2, y3, y4, y5, y6, y7, y8, y9⟩ := blk10 hZ3
    obtain ⟨z0, z1, z2, z3, z4, z5, z6, z7, z8, z9⟩ := frz10 hZ3
    go_wp2_with fail
    have hF := set10_blk (W := w3) (v0 := .int .i64 0) (v1 := .int .u32 0) (v2 := .int .u32 0) (v3 := .slice none 0 0) (v4 := .slice none 0 0) (v5 := .slice none 0 0) (v6 := .int .u64 0) (v7 := .int .i64 0) (v8 := .int .i64 0) (v9 := .slice none 0 0) hZ3
    have hG := hb3.trans (set10_below (W := w3) (R := w.heap.size) (v0 := .int .i64 0) (v1 := .int .u32 0) (v2 := .int .u32 0) (v3 := .slice none 0 0) (v4 := .slice none 0 0) (v5 := .slice none 0 0) (v6 := .int .u64 0) (v7 := .int .i64 0) (v8 := .int .i64 0) (v9 := .slice none 0 0) (Nat.le_refl _))
    change bodyPost _ _ _ _ _ (set10 w3 w.heap.size (.int .i64 0) (.int .u32 0) (.int .u32 0) (.slice none 0 0) (.slice none 0 0) (.slice none 0 0) (.int .u64 0) (.int .i64 0) (.int .i64 0) (.slice none 0 0))
    generalize set10 w3 w.heap.size (.int .i64 0) (.int .u32 0) (.int .u32 0) (.slice none 0 0) (.slice none 0 0) (.slice none 0 0) (.int .u64 0) (.int .i64 0) (.int .i64 0) (.slice none 0 0) = WF at hF hG ⊢
    clear y0 y1 y2 y3 y4 y5 y6 y7 y8 y9 z0 z1 z2 z3 z4 z5 z6 z7 z8 z9
    obtain ⟨f0, f1, f2, f3, f4, f5, f6, f7, f8, f9⟩ := blk10 hF
    refine bodyPost_ret (v := .tuple #[.agg #[Value.int .i64 0, .int .u32 0, .int .u32 0, .slice none 0 0, .slice none 0 0, .slice none 0 0, .int .u64 0, .int .i64 0, .int .i64 0, .slice none 0 0], .bool false]) (by simp [results, Try.results45, go_sem, f0, f1, f2, f3, f4, f5, f6, f7, f8, f9]) rfl ?_
    exact .inr ⟨.inl HSH.out, rfl, hG⟩
set_option maxHeartbeats 4000000 in
theorem readOne_5 (X0 : Nat) (A : Option Addr) (n c : Nat) (ws : List Nat) (w : World) (Pb : Nat → Prop) (h0 : X0 < 256) (hh : X0 / 32 = 4) (hC : X0 % 32 = 15) (h : R8 w w.heap.size A n c (wB ws)) (hw : Small ws) (hn : n ≤ 1000000) (hlo : ∀ k, w.heap.size ≤ k → Pb k) (hA : ∀ ad, A = some ad → Pb ad.block ∧ ad.block < w.heap.size) :
    Calls Try.prog 45 #[.int .u8 (X0 : Int), .int .u8 206, .slice A n c] w (OneRes w Pb (shapeB 5 ws) (parseR 206 15 ws)) := by
  have g : (bits .andNot .u8 (X0 : Int) 31 != 128) = false := by rw [andNot8 X0 h0]; simp; omega
  have hCw : ((X0 : Int) % 32) = 15 := by omega
  have HCW := Lib.hid hCw
  have hC32 : X0 % 32 < 32 := by omega
  rw [hC] at hC32
  have hpr : parseR 206 15 ws = ⟨5, ws.getD 0 0, 0, [], ws.drop 4, [], opN (ws.getD 3 0 / 262144 % 64) (ws.getD 3 0 % 262144), 0, 0, []⟩ := rfl
  have hkt : kindTC 206 15 = 5 := rfl
  have hko := fun W => kindOf_any 206 15 W
  rw [hkt] at hko
  rw [hpr]
  have hb1 := (Below.refl w.heap.size w).alloc (Nat.le_refl _) (.cells #[Value.int .i64 0, .int .u32 0, .int .u32 0, .slice none 0 0, .slice none 0 0, .slice none 0 0, .int .u64 0, .int .i64 0, .int .i64 0, .slice none 0 0] 33)
  have hbV := hb1.alloc hb1.size (.cells #[Value.int .i64 5, .int .u32 0, .int .u32 0, .slice none 0 0, .slice none 0 0, .slice none 0 0, .int .u64 0, .int .i64 0, .int .i64 0, .slice none 0 0] 33)
  have hZ0 : Blk ((w.alloc (.cells #[Value.int .i64 0, .int .u32 0, .int .u32 0, .slice none 0 0, .slice none 0 0, .slice none 0 0, .int .u64 0, .int .i64 0, .int .i64 0, .slice none 0 0] 33)).alloc (.cells #[Value.int .i64 5, .int .u32 0, .int .u32 0, .slice none 0 0, .slice none 0 0, .slice none 0 0, .int .u64 0, .int .i64 0, .int .i64 0, .slice none 0 0] 33)) w.heap.size 33 #[Value.int .i64 0, .int .u32 0, .int .u32 0, .slice none 0 0, .slice none 0 0, .slice none 0 0, .int .u64 0, .int .i64 0, .int .i64 0, .slice none 0 0] := (Blk.new w _ _).alloc _
  have hZ1 : Blk ((w.alloc (.cells #[Value.int .i64 0, .int .u32 0, .int .u32 0, .slice none 0 0, .slice none 0 0, .slice none 0 0, .int .u64 0, .int .i64 0, .int .i64 0, .slice none 0 0] 33)).alloc (.cells #[Value.int .i64 5, .int .u32 0, .int .u32 0, .slice none 0 0, .slice none 0 0, .slice none 0 0, .int .u64 0, .int .i64 0, .int .i64 0, .slice none 0 0] 33)) (w.heap.size + 1) 33 (kindCells 5) := by
    have h1 := Blk.new (w.alloc (.cells #[Value.int .i64 0, .int .u32 0, .int .u32 0, .slice none 0 0, .slice none 0 0, .slice none 0 0, .int .u64 0, .int .i64 0, .int .i64 0, .slice none 0 0] 33)) 33 #[Value.int .i64 5, .int .u32 0, .int .u32 0, .slice none 0 0, .slice none 0 0, .slice none 0 0, .int .u64 0, .int .i64 0, .int .i64 0, .slice none 0 0]
    have h2 : (w.alloc (.cells #[Value.int .i64 0, .int .u32 0, .int .u32 0, .slice none 0 0, .slice none 0 0, .slice none 0 0, .int .u64 0, .int .i64 0, .int .i64 0, .slice none 0 0] 33)).heap.size = w.heap.size + 1 := by simp
    rwa [h2] at h1
  have hsV : ((w.alloc (.cells #[Value.int .i64 0, .int .u32 0, .int .u32 0, .slice none 0 0, .slice none 0 0, .slice none 0 0, .int .u64 0, .int .i64 0, .int .i64 0, .slice none 0 0] 33)).alloc (.cells #[Value.int .i64 5, .int .u32 0, .int .u32 0, .slice none 0 0, .slice none 0 0, .slice none 0 0, .int .u64 0, .int .i64 0, .int .i64 0, .slice none 0 0] 33)).heap.size = w.heap.size + 2 := by simp
  have hrV := h.on hbV
  clear hCw hkt hpr hb1 h hC
  go_enter Try.func45, Try.ntmps45
  go_upto_region 4 with (fail)
  rw [HCW.out]
  go_wp2_with fail
  ((with_reducible refine (hko _).mono ?_); rintro e w1 ⟨rfl, rfl⟩)
  clear hko g
  go_upto_region 6 with (fail)
  generalize ((w.alloc (.cells #[Value.int .i64 0, .int .u32 0, .int .u32 0, .slice none 0 0, .slice none 0 0, .slice none 0 0, .int .u64 0, .int .i64 0, .int .i64 0, .slice none 0 0] 33)).alloc (.cells #[Value.int .i64 5, .int .u32 0, .int .u32 0, .slice none 0 0, .slice none 0 0, .slice none 0 0, .int .u64 0, .int .i64 0, .int .i64 0, .slice none 0 0] 33)) = VV at hbV hZ0 hZ1 hsV hrV ⊢
  have HSV := Lib.hid hsV
  have hsv : w.heap.size + 1 < VV.heap.size := by omega
  clear hsV
  have hrw := readWords_any A n c ws VV hrV hw hn
  go_wp2_with fail
  ((with_reducible refine hrw.mono ?_); rintro e w2 ⟨Aw, cw, rfl, rW, b2, low⟩)
  have hZ0 := hZ0.below b2 (by omega)
  have hZ1 := hZ1.below b2 hsv
  have hs2 := b2.size
  have b2 := hbV.trans (b2.mono hbV.size)
  have hwl : ws.length ≤ 250000 := by have := hrV.1; rw [wB_len] at this; omega
  have HWL := Lib.hid hwl
  have hne : ∀ ad, Aw = some ad → ad.block ≠ w.heap.size + 1 := fun ad e => by have := (low ad e).1; omega
  have HNE := Lib.hid hne
  have q0 : w2.cell? ⟨w.heap.size + 1, 0, none⟩ = some (.int .i64 5) := (hZ1.cell 0).trans rfl
  clear hrw hbV hwl hne
  by_cases hsh : (rmB ws) = true
  rotate_left
  · have hsh : (rmB ws) = false := by simpa using hsh
    have HSH : Hid (shapeB 5 ws = false) := Lib.hid (by unfold shapeB; rw [if_neg (by omega), if_neg (by omega), if_neg (by omega), if_pos rfl]; exact hsh)
    have hcall := readRemb_no Aw _ cw ws (w.heap.size + 1) w2 rW HWL.out hsh
    go_wp2_with fail
    ((with_reducible refine hcall.mono ?_); rintro e w3 ⟨rfl, b3⟩)
    have hZ3 := hZ0.below b3 (by omega)
    clear hcall hsh
    clear q0
    have hb3 := b2.trans (b3.mono (by omega))
    clear rW hZ1 low hs2 b2
    obtain ⟨y0, y1, y2, y3, y4, y5, y6, y7, y8, y9⟩ := blk10 hZ3
    obtain ⟨z0, z1, z2, z3, z4, z5, z6, z7, z8, z9⟩ := frz10 hZ3
    go_wp2_with fail
    have hF := set10_blk (W := w3) (v0 := .int .i64 0) (v1 := .int .u32 0) (v2 := .int .u32 0) (v3 := .slice none 0 0) (v4 := .slice none 0 0) (v5 := .slice none 0 0) (v6 := .int .u64 0) (v7 := .int .i64 0) (v8 := .int .i64 0) (v9 := .slice none 0 0) hZ3
    have hG := hb3.trans (set10_below (W := w3) (R := w.heap.size) (v0 := .int .i64 0) (v1 := .int .u32 0) (v2 := .int .u32 0) (v3 := .slice none 0 0) (v4 := .slice none 0 0) (v5 := .slice none 0 0) (v6 := .int .u64 0) (v7 := .int .i64 0) (v8 := .int .i64 0) (v9 := .slice none 0 0) (Nat.le_refl _))
    change bodyPost _ _ _ _ _ (set10 w3 w.heap.size (.int .i64 0) (.int .u32 0) (.int .u32 0) (.slice none 0 0) (.slice none 0 0) (.slice none 0 0) (.int .u64 0) (.int .i64 0) (.int .i64 0) (.slice none 0 0))
    generalize set10 w3 w.heap.size (.int .i64 0) (.int .u32 0) (.int .u32 0) (.slice none 0 0) (.slice none 0 0) (.slice none 0 0) (.int .u64 0) (.int .i64 0) (.int .i64 0) (.slice none 0 0) = WF at hF hG ⊢
    clear y0 y1 y2 y3 y4 y5 y6 y7 y8 y9 z0 z1 z2 z3 z4 z5 z6 z7 z8 z9
    obtain ⟨f0, f1, f2, f3, f4, f5, f6, f7, f8, f9⟩ := blk10 hF
    refine bodyPost_ret (v := .tuple #[.agg #[Value.int .i64 0, .int .u32 0, .int .u32 0, .slice none 0 0, .slice none 0 0, .slice none 0 0, .int .u64 0, .int .i64 0, .int .i64 0, .slice none 0 0], .bool false]) (by simp [results, Try.results45, go_sem, f0, f1, f2, f3, f4, f5, f6, f7, f8, f9]) rfl ?_
    exact .inr ⟨.inl HSH.out, rfl, hG⟩
  have HSH : Hid (shapeB 5 ws = true) := Lib.hid (by unfold shapeB; rw [if_neg (by omega), if_neg (by omega), if_neg (by omega), if_pos rfl]; exact hsh)
  have hcall := readRemb_yes Aw _ cw ws (w.heap.size + 1) w2 rW HNE.out HWL.out hsh hZ1
  go_wp2_with fail
  ((with_reducible refine hcall.mono ?_); rintro e w3 ⟨x, rfl, hxr, hZx, hxi, hxl, b3⟩)
  have hZ3 := hZ0.below b3 (by omega)
  have hoff : x.Off w.heap.size := fun ad had e => by have := (hxl ad had).1; omega
  clear hcall hsh
  clear q0
  have hb3 := b2.trans (b3.mono (by omega))
  have HXR := Lib.hid hxr
  have hRt := RP.rtcp_Right x w3 hxi
  have hlies : x.LiesP Pb w3.heap.size := fun ad had => ⟨hlo _ (by have := (hxl ad had).1; omega), (hxl ad had).2⟩
  obtain ⟨⟨kr, sr, ar, tr, br, nr, rr, yr, cr, dr⟩, At, ct, Aa, ca, An, cn, Ab, cb⟩ := x
  simp only [Rv.val, Rv.cells] at hRt hZx hxr
  have hZx : Blk w3 (w.heap.size + 1) 33 #[.int .i64 kr, .int .u32 (sr : Int), .int .u32 (ar : Int), .slice At tr.length ct, .slice Aa br.length ca, .slice An nr.length cn, .int .u64 (rr : Int), .int .i64 yr, .int .i64 cr, .slice Ab dr.length cb] := hZx
  obtain ⟨p0, p1, p2, p3, p4, p5, p6, p7, p8, p9⟩ := blk10 hZx
  clear rW hZ1 low hs2 b2 b3 hxl
  generalize hER : Rep.err ⟨kr, sr, ar, tr, br, nr, rr, yr, cr, dr⟩ = er at hRt
  have HER := Lib.hid hER
  clear hER hxr
  go_wp2_with fail
  ((with_reducible refine hRt.mono ?_); rintro e w4 ⟨rfl, b4⟩)
  have hZ4 := hZ3.below b4 hZ3.lt
  have hZy := hZx.below b4 hZx.lt
  have hxi := hxi.on b4
  have hs4 := b4.size
  have hlies : Rv.LiesP ⟨⟨kr, sr, ar, tr, br, nr, rr, yr, cr, dr⟩, At, ct, Aa, ca, An, cn, Ab, cb⟩ Pb w4.heap.size := fun ad had => ⟨(hlies ad had).1, Nat.lt_of_lt_of_le (hlies ad had).2 hs4⟩
  have hofs : Rv.Off ⟨⟨kr, sr, ar, tr, br, nr, rr, yr, cr, dr⟩, At, ct, Aa, ca, An, cn, Ab, cb⟩ w.heap.size := hoff
  have hb4 := hb3.trans (b4.mono hb3.size)
  clear p0 p1 p2 p3 p4 p5 p6 p7 p8 p9 hRt hZx hb3 b4 hZ3 hoff
  obtain ⟨p0, p1, p2, p3, p4, p5, p6, p7, p8, p9⟩ := blk10 hZy
  obtain ⟨y0, y1, y2, y3, y4, y5, y6, y7, y8, y9⟩ := blk10 hZ4
  obtain ⟨z0, z1, z2, z3, z4, z5, z6, z7, z8, z9⟩ := frz10 hZ4
  by_cases he : er = 0
  rotate_left
  · have ge : (er != 0) = true := by simpa using he
    have HNE0 := Lib.hid he
    clear he
    clear p0 p1 p2 p3 p4 p5 p6 p7 p8 p9
    go_wp2_with fail
    have hF := set10_blk (W := w4) (v0 := .int .i64 0) (v1 := .int .u32 0) (v2 := .int .u32 0) (v3 := .slice none 0 0) (v4 := .slice none 0 0) (v5 := .slice none 0 0) (v6 := .int .u64 0) (v7 := .int .i64 0) (v8 := .int .i64 0) (v9 := .slice none 0 0) hZ4
    have hG := hb4.trans (set10_below (W := w4) (R := w.heap.size) (v0 := .int .i64 0) (v1 := .int .u32 0) (v2 := .int .u32 0) (v3 := .slice none 0 0) (v4 := .slice none 0 0) (v5 := .slice none 0 0) (v6 := .int .u64 0) (v7 := .int .i64 0) (v8 := .int .i64 0) (v9 := .slice none 0 0) (Nat.le_refl _))
    change bodyPost _ _ _ _ _ (set10 w4 w.heap.size (.int .i64 0) (.int .u32 0) (.int .u32 0) (.slice none 0 0) (.slice none 0 0) (.slice none 0 0) (.int .u64 0) (.int .i64 0) (.int .i64 0) (.slice none 0 0))
    generalize set10 w4 w.heap.size (.int .i64 0) (.int .u32 0) (.int .u32 0) (.slice none 0 0) (.slice none 0 0) (.slice none 0 0) (.int .u64 0) (.int .i64 0) (.int .i64 0) (.slice none 0 0) = WF at hF hG ⊢
    clear y0 y1 y2 y3 y4 y5 y6 y7 y8 y9 z0 z1 z2 z3 z4 z5 z6 z7 z8 z9
    obtain ⟨f0, f1, f2, f3, f4, f5, f6, f7, f8, f9⟩ := blk10 hF
    refine bodyPost_ret (v := .tuple #[.agg #[Value.int .i64 0, .int .u32 0, .int .u32 0, .slice none 0 0, .slice none 0 0, .slice none 0 0, .int .u64 0, .int .i64 0, .int .i64 0, .slice none 0 0], .bool false]) (by simp [results, Try.results45, go_sem, f0, f1, f2, f3, f4, f5, f6, f7, f8, f9]) rfl ?_
    exact .inr ⟨.inr (by rw [← HXR.out, HER.out]; exact HNE0.out), rfl, hG⟩
  subst he
  go_wp2_with fail
  have hF := set10_blk (W := w4) (v0 := .int .i64 kr) (v1 := .int .u32 (sr : Int)) (v2 := .int .u32 (ar : Int)) (v3 := .slice At tr.length ct) (v4 := .slice Aa br.length ca) (v5 := .slice An nr.length cn) (v6 := .int .u64 (rr : Int)) (v7 := .int .i64 yr) (v8 := .int .i64 cr) (v9 := .slice Ab dr.length cb) hZ4
  have hG := hb4.trans (set10_below (W := w4) (R := w.heap.size) (v0 := .int .i64 kr) (v1 := .int .u32 (sr : Int)) (v2 := .int .u32 (ar : Int)) (v3 := .slice At tr.length ct) (v4 := .slice Aa br.length ca) (v5 := .slice An nr.length cn) (v6 := .int .u64 (rr : Int)) (v7 := .int .i64 yr) (v8 := .int .i64 cr) (v9 := .slice Ab dr.length cb) (Nat.le_refl _))
  have hX := hxi.but (but_set10 w4 w.heap.size (.int .i64 kr) (.int .u32 (sr : Int)) (.int .u32 (ar : Int)) (.slice At tr.length ct) (.slice Aa br.length ca) (.slice An nr.length cn) (.int .u64 (rr : Int)) (.int .i64 yr) (.int .i64 cr) (.slice Ab dr.length cb)) hofs
  have hS : (set10 w4 w.heap.size (.int .i64 kr) (.int .u32 (sr : Int)) (.int .u32 (ar : Int)) (.slice At tr.length ct) (.slice Aa br.length ca) (.slice An nr.length cn) (.int .u64 (rr : Int)) (.int .i64 yr) (.int .i64 cr) (.slice Ab dr.length cb)).heap.size = w4.heap.size := set10_size
  rw [← hS] at hlies
  clear hS
  change bodyPost _ _ _ _ _ (set10 w4 w.heap.size (.int .i64 kr) (.int .u32 (sr : Int)) (.int .u32 (ar : Int)) (.slice At tr.length ct) (.slice Aa br.length ca) (.slice An nr.length cn) (.int .u64 (rr : Int)) (.int .i64 yr) (.int .i64 cr) (.slice Ab dr.length cb))
  generalize set10 w4 w.heap.size (.int .i64 kr) (.int .u32 (sr : Int)) (.int .u32 (ar : Int)) (.slice At tr.length ct) (.slice Aa br.length ca) (.slice An nr.length cn) (.int .u64 (rr : Int)) (.int .i64 yr) (.int .i64 cr) (.slice Ab dr.length cb) = WF at hF hG hX hlies ⊢
  clear p0 p1 p2 p3 p4 p5 p6 p7 p8 p9 y0 y1 y2 y3 y4 y5 y6 y7 y8 y9 z0 z1 z2 z3 z4 z5 z6 z7 z8 z9
  obtain ⟨f0, f1, f2, f3, f4, f5, f6, f7, f8, f9⟩ := blk10 hF
  refine bodyPost_ret (by simp [results, Try.results45, go_sem, f0, f1, f2, f3, f4, f5, f6, f7, f8, f9]; try rfl) rfl ?_
  exact .inl ⟨HSH.out, by rw [← HXR.out]; exact HER.out, ⟨⟨⟨kr, sr, ar, tr, br, nr, rr, yr, cr, dr⟩, At, ct, Aa, ca, An, cn, Ab, cb⟩, rfl, HXR.out, hX, hlies, hG⟩⟩
set_option maxHeartbeats 4000000 in
theorem readOne_6 (X0 X1 C : Nat) (A : Option Addr) (n c : Nat) (ws : List Nat) (w : World) (Pb : Nat → Prop) (h0 : X0 < 256) (hh : X0 / 32 = 4) (h1 : X1 < 256) (hC : X0 % 32 = C) (hk : oursTC X1 C = false) (h : R8 w w.heap.size A n c (wB ws)) (hw : Small ws) (hn : n ≤ 1000000) (hlo : ∀ k, w.heap.size ≤ k → Pb k) (hA : ∀ ad, A = some ad → Pb ad.block ∧ ad.block < w.heap.size) :
    Calls Try.prog 45 #[.int .u8 (X0 : Int), .int .u8 (X1 : Int), .slice A n c] w (OneRes w Pb (shapeB 6 ws) (parseR (X1 : Int) (C : Int) ws)) := by
  have g : (bits .andNot .u8 (X0 : Int) 31 != 128) = false := by rw [andNot8 X0 h0]; simp; omega
  have hCw : ((X0 : Int) % 32) = (C : Int) := by omega
  have HCW := Lib.hid hCw
  have hC32 : X0 % 32 < 32 := by omega
  rw [hC] at hC32
  have hpr : parseR (X1 : Int) (C : Int) ws = ⟨6, 0, 0, [], [], [], 0, X1, C, wB ws⟩ := if_pos hk
  have hkt : kindTC (X1 : Int) (C : Int) = 6 := by have := kind_ours (X1 : Int) (C : Int); rw [hk] at this; simpa using this
  have hko := fun W => kindOf_any (X1 : Int) (C : Int) W
  rw [hkt] at hko
  rw [hpr]
  have hb1 := (Below.refl w.heap.size w).alloc (Nat.le_refl _) (.cells #[Value.int .i64 0, .int .u32 0, .int .u32 0, .slice none 0 0, .slice none 0 0, .slice none 0 0, .int .u64 0, .int .i64 0, .int .i64 0, .slice none 0 0] 33)
  have hbV := hb1.alloc hb1.size (.cells #[Value.int .i64 6, .int .u32 0, .int .u32 0, .slice none 0 0, .slice none 0 0, .slice none 0 0, .int .u64 0, .int .i64 0, .int .i64 0, .slice none 0 0] 33)
  have hZ0 : Blk ((w.alloc (.cells #[Value.int .i64 0, .int .u32 0, .int .u32 0, .slice none 0 0, .slice none 0 0, .slice none 0 0, .int .u64 0, .int .i64 0, .int .i64 0, .slice none 0 0] 33)).alloc (.cells #[Value.int .i64 6, .int .u32 0, .int .u32 0, .slice none 0 0, .slice none 0 0, .slice none 0 0, .int .u64 0, .int .i64 0, .int .i64 0, .slice none 0 0] 33)) w.heap.size 33 #[Value.int .i64 0, .int .u32 0, .int .u32 0, .slice none 0 0, .slice none 0 0, .slice none 0 0, .int .u64 0, .int .i64 0, .int .i64 0, .slice none 0 0] := (Blk.new w _ _).alloc _
  have hZ1 : Blk ((w.alloc (.cells #[Value.int .i64 0, .int .u32 0, .int .u32 0, .slice none 0 0, .slice none 0 0, .slice none 0 0, .int .u64 0, .int .i64 0, .int .i64 0, .slice none 0 0] 33)).alloc (.cells #[Value.int .i64 6, .int .u32 0, .int .u32 0, .slice none 0 0, .slice none 0 0, .slice none 0 0, .int .u64 0, .int .i64 0, .int .i64 0, .slice none 0 0] 33)) (w.heap.size + 1) 33 (kindCells 6) := by
    have h1 := Blk.new (w.alloc (.cells #[Value.int .i64 0, .int .u32 0, .int .u32 0, .slice none 0 0, .slice none 0 0, .slice none 0 0, .int .u64 0, .int .i64 0, .int .i64 0, .slice none 0 0] 33)) 33 #[Value.int .i64 6, .int .u32 0, .int .u32 0, .slice none 0 0, .slice none 0 0, .slice none 0 0, .int .u64 0, .int .i64 0, .int .i64 0, .slice none 0 0]
    have h2 : (w.alloc (.cells #[Value.int .i64 0, .int .u32 0, .int .u32 0, .slice none 0 0, .slice none 0 0, .slice none 0 0, .int .u64 0, .int .i64 0, .int .i64 0, .slice none 0 0] 33)).heap.size = w.heap.size + 1 := by simp
    rwa [h2] at h1
  have hsV : ((w.alloc (.cells #[Value.int .i64 0, .int .u32 0, .int .u32 0, .slice none 0 0, .slice none 0 0, .slice none 0 0, .int .u64 0, .int .i64 0, .int .i64 0, .slice none 0 0] 33)).alloc (.cells #[Value.int .i64 6, .int .u32 0, .int .u32 0, .slice none 0 0, .slice none 0 0, .slice none 0 0, .int .u64 0, .int .i64 0, .int .i64 0, .slice none 0 0] 33)).heap.size = w.heap.size + 2 := by simp
  have hrV := h.on hbV
  clear hCw hkt hpr hb1 hk hC
  go_enter Try.func45, Try.ntmps45
  go_upto_region 4 with (fail)
  rw [HCW.out]
  go_wp2_with fail
  ((with_reducible refine (hko _).mono ?_); rintro e w1 ⟨rfl, rfl⟩)
  clear hko g
  go_upto_region 6 with (fail)
  generalize ((w.alloc (.cells #[Value.int .i64 0, .int .u32 0, .int .u32 0, .slice none 0 0, .slice none 0 0, .slice none 0 0, .int .u64 0, .int .i64 0, .int .i64 0, .slice none 0 0] 33)).alloc (.cells #[Value.int .i64 6, .int .u32 0, .int .u32 0, .slice none 0 0, .slice none 0 0, .slice none 0 0, .int .u64 0, .int .i64 0, .int .i64 0, .slice none 0 0] 33)) = VV at hbV hZ0 hZ1 hsV hrV ⊢
  have HSV := Lib.hid hsV
  have hsv : w.heap.size + 1 < VV.heap.size := by omega
  clear hsV
  have hrw := readWords_any A n c ws VV hrV hw hn
  go_wp2_with fail
  ((with_reducible refine hrw.mono ?_); rintro e w2 ⟨Aw, cw, rfl, rW, b2, low⟩)
  have hZ0 := hZ0.below b2 (by omega)
  have hZ1 := hZ1.below b2 hsv
  have hs2 := b2.size
  have b2 := hbV.trans (b2.mono hbV.size)
  have hwl : ws.length ≤ 250000 := by have := hrV.1; rw [wB_len] at this; omega
  have HWL := Lib.hid hwl
  have hne : ∀ ad, Aw = some ad → ad.block ≠ w.heap.size + 1 := fun ad e => by have := (low ad e).1; omega
  have HNE := Lib.hid hne
  have q0 : w2.cell? ⟨w.heap.size + 1, 0, none⟩ = some (.int .i64 6) := (hZ1.cell 0).trans rfl
  clear hrw hbV hwl hne
  have HSH : Hid (shapeB 6 ws = true) := Lib.hid (by unfold shapeB; rw [if_neg (by omega), if_neg (by omega), if_neg (by omega), if_neg (by omega)])
  obtain ⟨q0, q1, q2, q3, q4, q5, q6, q7, q8, q9⟩ := blk10 hZ1
  obtain ⟨k0, k1, k2, k3, k4, k5, k6, k7, k8, k9⟩ := frz10 hZ1
  go_upto_region 19 with (fail)
  clear q0 q1 q2 q3 q4 q5 q6 q7 q8 q9 k0 k1 k2 k3 k4 k5 k6 k7 k8 k9
  have hZx := ((hZ1.set_ 7 (.int .i64 (X1 : Int))).set_ 8 (.int .i64 (C : Int))).set_ 9 (.slice A n c)
  simp only [kindCells, List.setIfInBounds_toArray, List.set_cons_succ, List.set_cons_zero] at hZx
  have b3 := Below.setCell (Below.setCell (Below.setCell (Below.refl (w.heap.size + 1) w2) (p := ⟨w.heap.size + 1, 7, none⟩) (Nat.le_refl _) (.int .i64 (X1 : Int))) (p := ⟨w.heap.size + 1, 8, none⟩) (Nat.le_refl _) (.int .i64 (C : Int))) (p := ⟨w.heap.size + 1, 9, none⟩) (Nat.le_refl _) (.slice A n c)
  have hr2 := h.on b2
  have hnl := h.1
  have hZ3 := hZ0.below b3 (by omega)
  have b3w := b3.size
  have hs3 : w.heap.size ≤ (((w2.setCell ⟨w.heap.size + 1, 7, none⟩ (.int .i64 (X1 : Int))).setCell ⟨w.heap.size + 1, 8, none⟩ (.int .i64 (C : Int))).setCell ⟨w.heap.size + 1, 9, none⟩ (.slice A n c)).heap.size := by have := b2.size; omega
  have hr3 := (h.below (b2.trans (b3.mono (by omega)))).more hs3
  clear q0 hr2 h
  subst hnl
  generalize hBD : wB ws = BD at *
  have hxi : IsR (((w2.setCell ⟨w.heap.size + 1, 7, none⟩ (.int .i64 (X1 : Int))).setCell ⟨w.heap.size + 1, 8, none⟩ (.int .i64 (C : Int))).setCell ⟨w.heap.size + 1, 9, none⟩ (.slice A BD.length c)) (((w2.setCell ⟨w.heap.size + 1, 7, none⟩ (.int .i64 (X1 : Int))).setCell ⟨w.heap.size + 1, 8, none⟩ (.int .i64 (C : Int))).setCell ⟨w.heap.size + 1, 9, none⟩ (.slice A BD.length c)).heap.size ⟨⟨6, 0, 0, [], [], [], 0, X1, C, BD⟩, none, 0, none, 0, none, 0, A, c⟩ := ⟨RT.nil _ _ _ _, R32.nil _ _ _ _, RN.nil _ _ _ _, hr3, Rep.In.of (i64_small (by omega)) (by omega) (by omega) (by omega) (i64_small (by omega)) (i64_small (by omega)) (by simp) (by simp) (by simp) (by omega)⟩
  have hxl : Rv.LiesP ⟨⟨6, 0, 0, [], [], [], 0, X1, C, BD⟩, none, 0, none, 0, none, 0, A, c⟩ Pb (((w2.setCell ⟨w.heap.size + 1, 7, none⟩ (.int .i64 (X1 : Int))).setCell ⟨w.heap.size + 1, 8, none⟩ (.int .i64 (C : Int))).setCell ⟨w.heap.size + 1, 9, none⟩ (.slice A BD.length c)).heap.size := by
    intro ad had
    rcases had with had | had | had | had
    · cases had
    · cases had
    · cases had
    · exact ⟨(hA ad had).1, Nat.lt_of_lt_of_le (hA ad had).2 hs3⟩
  have hoff : Rv.Off ⟨⟨6, 0, 0, [], [], [], 0, X1, C, BD⟩, none, 0, none, 0, none, 0, A, c⟩ w.heap.size := by
    intro ad had e
    rcases had with had | had | had | had
    · cases had
    · cases had
    · cases had
    · have := (hA ad had).2; omega
  have HBD := Lib.hid hBD
  have hzt : Blk (((w2.setCell ⟨w.heap.size + 1, 7, none⟩ (.int .i64 (X1 : Int))).setCell ⟨w.heap.size + 1, 8, none⟩ (.int .i64 (C : Int))).setCell ⟨w.heap.size + 1, 9, none⟩ (.slice A BD.length c)) (w.heap.size + 1) 33 (Rv.cells ⟨⟨6, 0, 0, [], [], [], 0, X1, C, BD⟩, none, 0, none, 0, none, 0, A, c⟩).toArray := hZx
  clear hr3 hZx hs3 b3w hBD hrV
  generalize (((w2.setCell ⟨w.heap.size + 1, 7, none⟩ (.int .i64 (X1 : Int))).setCell ⟨w.heap.size + 1, 8, none⟩ (.int .i64 (C : Int))).setCell ⟨w.heap.size + 1, 9, none⟩ (.slice A BD.length c)) = w3 at hxi hxl hoff hZ3 hzt b3 ⊢
  have hZx := hzt
  clear hzt
  obtain ⟨x, hxx⟩ : ∃ x : Rv, x = ⟨⟨6, 0, 0, [], [], [], 0, X1, C, BD⟩, none, 0, none, 0, none, 0, A, c⟩ := ⟨_, rfl⟩
  rw [← hxx] at hxi hxl hoff hZx
  have hxr : x.r = ⟨6, 0, 0, [], [], [], 0, X1, C, BD⟩ := by rw [hxx]
  clear hxx
  have hb3 := b2.trans (b3.mono (by omega))
  have HXR := Lib.hid hxr
  have hRt := RP.rtcp_Right x w3 hxi
  have hlies : x.LiesP Pb w3.heap.size := hxl
  obtain ⟨⟨kr, sr, ar, tr, br, nr, rr, yr, cr, dr⟩, At, ct, Aa, ca, An, cn, Ab, cb⟩ := x
  simp only [Rv.val, Rv.cells] at hRt hZx hxr
  have hZx : Blk w3 (w.heap.size + 1) 33 #[.int .i64 kr, .int .u32 (sr : Int), .int .u32 (ar : Int), .slice At tr.length ct, .slice Aa br.length ca, .slice An nr.length cn, .int .u64 (rr : Int), .int .i64 yr, .int .i64 cr, .slice Ab dr.length cb] := hZx
  obtain ⟨p0, p1, p2, p3, p4, p5, p6, p7, p8, p9⟩ := blk10 hZx
  clear rW hZ1 low hs2 b2 b3 hxl
  generalize hER : Rep.err ⟨kr, sr, ar, tr, br, nr, rr, yr, cr, dr⟩ = er at hRt
  have HER := Lib.hid hER
  clear hER hxr
  go_wp2_with fail
  ((with_reducible refine hRt.mono ?_); rintro e w4 ⟨rfl, b4⟩)
  have hZ4 := hZ3.below b4 hZ3.lt
  have hZy := hZx.below b4 hZx.lt
  have hxi := hxi.on b4
  have hs4 := b4.size
  have hlies : Rv.LiesP ⟨⟨kr, sr, ar, tr, br, nr, rr, yr, cr, dr⟩, At, ct, Aa, ca, An, cn, Ab, cb⟩ Pb w4.heap.size := fun ad had => ⟨(hlies ad had).1, Nat.lt_of_lt_of_le (hlies ad had).2 hs4⟩
  have hofs : Rv.Off ⟨⟨kr, sr, ar, tr, br, nr, rr, yr, cr, dr⟩, At, ct, Aa, ca, An, cn, Ab, cb⟩ w.heap.size := hoff
  have hb4 := hb3.trans (b4.mono hb3.size)
  clear p0 p1 p2 p3 p4 p5 p6 p7 p8 p9 hRt hZx hb3 b4 hZ3 hoff
  obtain ⟨p0, p1, p2, p3, p4, p5, p6, p7, p8, p9⟩ := blk10 hZy
  obtain ⟨y0, y1, y2, y3, y4, y5, y6, y7, y8, y9⟩ := blk10 hZ4
  obtain ⟨z0, z1, z2, z3, z4, z5, z6, z7, z8, z9⟩ := frz10 hZ4
  by_cases he : er = 0
  rotate_left
  · have ge : (er != 0) = true := by simpa using he
    have HNE0 := Lib.hid he
    clear he
    clear p0 p1 p2 p3 p4 p5 p6 p7 p8 p9
    go_wp2_with fail
    have hF := set10_blk (W := w4) (v0 := .int .i64 0) (v1 := .int .u32 0) (v2 := .int .u32 0) (v3 := .slice none 0 0) (v4 := .slice none 0 0) (v5 := .slice none 0 0) (v6 := .int .u64 0) (v7 := .int .i64 0) (v8 := .int .i64 0) (v9 := .slice none 0 0) hZ4
    have hG := hb4.trans (set10_below (W := w4) (R := w.heap.size) (v0 := .int .i64 0) (v1 := .int .u32 0) (v2 := .int .u32 0) (v3 := .slice none 0 0) (v4 := .slice none 0 0) (v5 := .slice none 0 0) (v6 := .int .u64 0) (v7 := .int .i64 0) (v8 := .int .i64 0) (v9 := .slice none 0 0) (Nat.le_refl _))
    change bodyPost _ _ _ _ _ (set10 w4 w.heap.size (.int .i64 0) (.int .u32 0) (.int .u32 0) (.slice none 0 0) (.slice none 0 0) (.slice none 0 0) (.int .u64 0) (.int .i64 0) (.int .i64 0) (.slice none 0 0))
    generalize set10 w4 w.heap.size (.int .i64 0) (.int .u32 0) (.int .u32 0) (.slice none 0 0) (.slice none 0 0) (.slice none 0 0) (.int .u64 0) (.int .i64 0) (.int .i64 0) (.slice none 0 0) = WF at hF hG ⊢
    clear y0 y1 y2 y3 y4 y5 y6 y7 y8 y9 z0 z1 z2 z3 z4 z5 z6 z7 z8 z9
    obtain ⟨f0, f1, f2, f3, f4, f5, f6, f7, f8, f9⟩ := blk10 hF
    refine bodyPost_ret (v := .tuple #[.agg #[Value.int .i64 0, .int .u32 0, .int .u32 0, .slice none 0 0, .slice none 0 0, .slice none 0 0, .int .u64 0, .int .i64 0, .int .i64 0, .slice none 0 0], .bool false]) (by simp [results, Try.results45, go_sem, f0, f1, f2, f3, f4, f5, f6, f7, f8, f9]) rfl ?_
    exact .inr ⟨.inr (by rw [← HXR.out, HER.out]; exact HNE0.out), rfl, hG⟩
  subst he
  go_wp2_with fail
  have hF := set10_blk (W := w4) (v0 := .int .i64 kr) (v1 := .int .u32 (sr : Int)) (v2 := .int .u32 (ar : Int)) (v3 := .slice At tr.length ct) (v4 := .slice Aa br.length ca) (v5 := .slice An nr.length cn) (v6 := .int .u64 (rr : Int)) (v7 := .int .i64 yr) (v8 := .int .i64 cr) (v9 := .slice Ab dr.length cb) hZ4
  have hG := hb4.trans (set10_below (W := w4) (R := w.heap.size) (v0 := .int .i64 kr) (v1 := .int .u32 (sr : Int)) (v2 := .int .u32 (ar : Int)) (v3 := .slice At tr.length ct) (v4 := .slice Aa br.length ca) (v5 := .slice An nr.length cn) (v6 := .int .u64 (rr : Int)) (v7 := .int .i64 yr) (v8 := .int .i64 cr) (v9 := .slice Ab dr.length cb) (Nat.le_refl _))
  have hX := hxi.but (but_set10 w4 w.heap.size (.int .i64 kr) (.int .u32 (sr : Int)) (.int .u32 (ar : Int)) (.slice At tr.length ct) (.slice Aa br.length ca) (.slice An nr.length cn) (.int .u64 (rr : Int)) (.int .i64 yr) (.int .i64 cr) (.slice Ab dr.length cb)) hofs
  have hS : (set10 w4 w.heap.size (.int .i64 kr) (.int .u32 (sr : Int)) (.int .u32 (ar : Int)) (.slice At tr.length ct) (.slice Aa br.length ca) (.slice An nr.length cn) (.int .u64 (rr : Int)) (.int .i64 yr) (.int .i64 cr) (.slice Ab dr.length cb)).heap.size = w4.heap.size := set10_size
  rw [← hS] at hlies
  clear hS
  change bodyPost _ _ _ _ _ (set10 w4 w.heap.size (.int .i64 kr) (.int .u32 (sr : Int)) (.int .u32 (ar : Int)) (.slice At tr.length ct) (.slice Aa br.length ca) (.slice An nr.length cn) (.int .u64 (rr : Int)) (.int .i64 yr) (.int .i64 cr) (.slice Ab dr.length cb))
  generalize set10 w4 w.heap.size (.int .i64 kr) (.int .u32 (sr : Int)) (.int .u32 (ar : Int)) (.slice At tr.length ct) (.slice Aa br.length ca) (.slice An nr.length cn) (.int .u64 (rr : Int)) (.int .i64 yr) (.int .i64 cr) (.slice Ab dr.length cb) = WF at hF hG hX hlies ⊢
  clear p0 p1 p2 p3 p4 p5 p6 p7 p8 p9 y0 y1 y2 y3 y4 y5 y6 y7 y8 y9 z0 z1 z2 z3 z4 z5 z6 z7 z8 z9
  obtain ⟨f0, f1, f2, f3, f4, f5, f6, f7, f8, f9⟩ := blk10 hF
  refine bodyPost_ret (by simp [results, Try.results45, go_sem, f0, f1, f2, f3, f4, f5, f6, f7, f8, f9]; try rfl) rfl ?_
  exact .inl ⟨HSH.out, by rw [← HXR.out]; exact HER.out, ⟨⟨⟨kr, sr, ar, tr, br, nr, rr, yr, cr, dr⟩, At, ct, Aa, ca, An, cn, Ab, cb⟩, rfl, HXR.out, hX, hlies, hG⟩⟩
def OneAns (w : World) (Pb : Nat → Prop) (X0 X1 : Nat) (ws : List Nat) (e : Ending) (w' : World) : Prop := (okOne X0 X1 ws = true ∧ OneOut w Pb (parseR X1 ((X0 % 32 : Nat) : Int) ws) e w') ∨ (okOne X0 X1 ws = false ∧ OneNo w e w')
theorem OneRes.ans {w w' : World} {Pb : Nat → Prop} {X0 X1 : Nat} {ws : List Nat} {e : Ending} (hh : X0 / 32 = 4) (h : OneRes w Pb (shapeB (kindTC X1 ((X0 % 32 : Nat) : Int)) ws) (parseR X1 ((X0 % 32 : Nat) : Int) ws) e w') : OneAns w Pb X0 X1 ws e w' := by
  unfold OneAns okOne
  rw [decide_eq_true hh, Bool.true_and]
  rcases h with ⟨h1, h2, h3⟩ | ⟨h1, h3⟩
  · exact .inl ⟨by rw [h1, decide_eq_true h2]; rfl, h3⟩
  · refine .inr ⟨?_, h3⟩
    rcases h1 with h1 | h1
    · rw [h1]; rfl
    · rw [decide_eq_false h1, Bool.and_false]
theorem rtcp_readOne (X0 X1 : Nat) (A : Option Addr) (n c : Nat) (ws : List Nat) (w : World) (Pb : Nat → Prop) (h0 : X0 < 256) (h1 : X1 < 256) (h : R8 w w.heap.size A n c (wB ws)) (hw : Small ws) (hn : n ≤ 1000000) (hlo : ∀ k, w.heap.size ≤ k → Pb k) (hA : ∀ ad, A = some ad → Pb ad.block ∧ ad.block < w.heap.size) :
    Calls Try.prog 45 #[.int .u8 (X0 : Int), .int .u8 (X1 : Int), .slice A n c] w (OneAns w Pb X0 X1 ws) := by
  by_cases hh : X0 / 32 = 4
  rotate_left
  · refine (readOne_head X0 X1 A n c w h0 hh).mono fun e w' h3 => .inr ⟨?_, h3⟩
    unfold okOne
    rw [decide_eq_false hh]
    rfl
  have hk := kindTC_cases (X1 : Int) ((X0 % 32 : Nat) : Int)
  rcases hk with ⟨hk, ht, hc⟩ | ⟨hk, ht, hc⟩ | ⟨hk, ht, hc⟩ | ⟨hk, ht, hc⟩ | ⟨hk, ht, hc⟩ | ⟨hk, ho⟩
  · have e1 : X1 = 205 := by omega
    have e2 : X0 % 32 = 3 := by omega
    subst e1
    refine (readOne_1 X0 A n c ws w Pb h0 hh e2 h hw hn hlo hA).mono fun e w' h3 => OneRes.ans hh ?_
    rw [hk, e2]
    exact h3
  · have e1 : X1 = 205 := by omega
    have e2 : X0 % 32 = 4 := by omega
    subst e1
    refine (readOne_2 X0 A n c ws w Pb h0 hh e2 h hw hn hlo hA).mono fun e w' h3 => OneRes.ans hh ?_
    rw [hk, e2]
    exact h3
  · have e1 : X1 = 206 := by omega
    have e2 : X0 % 32 = 1 := by omega
    subst e1
    refine (readOne_3 X0 A n c ws w Pb h0 hh e2 h hw hn hlo hA).mono fun e w' h3 => OneRes.ans hh ?_
    rw [hk, e2]
    exact h3
  · have e1 : X1 = 206 := by omega
    have e2 : X0 % 32 = 4 := by omega
    subst e1
    refine (readOne_4 X0 A n c ws w Pb h0 hh e2 h hw hn hlo hA).mono fun e w' h3 => OneRes.ans hh ?_
    rw [hk, e2]
    exact h3
  · have e1 : X1 = 206 := by omega
    have e2 : X0 % 32 = 15 := by omega
    subst e1
    refine (readOne_5 X0 A n c ws w Pb h0 hh e2 h hw hn hlo hA).mono fun e w' h3 => OneRes.ans hh ?_
    rw [hk, e2]
    exact h3
  · refine (readOne_6 X0 X1 (X0 % 32) A n c ws w Pb h0 hh h1 rfl ho h hw hn hlo hA).mono fun e w' h3 => OneRes.ans hh ?_
    rw [hk]
    exact h3
end Go.Proofs.Ytnchgmemajmkjaa
