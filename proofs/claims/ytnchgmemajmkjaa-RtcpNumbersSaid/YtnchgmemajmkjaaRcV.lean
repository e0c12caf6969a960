/- Contracts: limelightref6.parse whole; Read. -/
import Derived.Test.YtnchgmemajmkjaaMd
import Derived.Test.YtnchgmemajmkjaaRegP
namespace Go.Proofs.Ytnchgmemajmkjaa.RP
open Go.RowKit
set_option linter.unusedVariables false
set_option linter.unusedSimpArgs false
set_option maxRecDepth 20000

theorem ours_cases {t c : Int} (h : oursTC t c = true) : (t = 205 ∧ (c = 3 ∨ c = 4)) ∨ (t = 206 ∧ (c = 1 ∨ c = 4 ∨ c = 15)) := by
  unfold oursTC at h
  simpa using h
theorem ref6_parse (t cn : Int) (A : Option Addr) (n c : Nat) (ws : List Nat) (w : World) (h : R8 w w.heap.size A n c (wB ws)) (hw : Small ws) (hn : n ≤ 1000000) (ht64 : I64 t) (hc64 : I64 cn) :
    Calls Try.prog 57 #[.int .i64 t, .int .i64 cn, .slice A n c] w (NewRep w (parseR t cn ws)) := by
  cases ho : oursTC t cn with
  | false => exact parse_other t cn A n c ws w h hw hn ho ht64 hc64
  | true =>
    rcases ours_cases ho with ⟨rfl, rfl | rfl⟩ | ⟨rfl, rfl | rfl | rfl⟩
    · exact parse_tmm1 A n c ws w h hw hn
    · exact parse_tmm2 A n c ws w h hw hn
    · exact parse_pli A n c ws w h hw hn
    · exact parse_fir A n c ws w h hw hn
    · exact parse_remb A n c ws w h hw hn
/-- What Read answers. -/
def RdOut (w : World) (b : List UInt8) (e : Ending) (w' : World) : Prop :=
  ∃ A n c, ∃ L : List Rv, e = .returned (.tuple #[.slice A n c, .int .i64 (rdReps b).1]) ∧ L.map Rv.r = (rdReps b).2 ∧ RR w' w'.heap.size A n c L ∧ n ≤ 400 ∧ Below w.heap.size w w'
theorem RdOut.no {w w' : World} {b : List UInt8} {k : Int} (h : rdReps b = (k, [])) (hb : Below w.heap.size w w') : RdOut w b (.returned (.tuple #[.slice none 0 0, .int .i64 k])) w' :=
  ⟨none, 0, 0, [], by rw [h], by rw [h]; rfl, RR.nil _ _ _ _, by omega, hb⟩
/-- What is read that is right may be written, and written short. -/
theorem rdR_ok {l : List UInt8} (hs : rdShort l = false) (he : (rdR l).err = 0) : (∀ t ∈ (rdR l).tups, t.ok = true) ∧ ((rdR l).tups ≠ [] → 12 + 8 * (rdR l).tups.length ≤ (rdX l).length) := by
  obtain ⟨hk, hf, hb⟩ := Rep.err_zero he
  have hlen : (rdX l).length = 4 + 4 * rdN l := by
    unfold rdShort at hs
    simp at hs
    unfold rdX
    rw [List.length_take]
    omega
  have hl4 : ((rdX l).drop 4).length = 4 * rdN l := by rw [List.length_drop, hlen]; omega
  obtain ⟨_, hwl, _⟩ := wB_ws (rdN l) _ hl4
  constructor
  · intro t ht
    by_cases h12 : (rdR l).kind = 1 ∨ (rdR l).kind = 2
    · have := Rep.fits_12 h12 hf
      unfold tupsOk at this
      rw [Bool.and_eq_true, List.all_eq_true] at this
      exact this.1 t ht
    · exfalso
      have h0 : (rdR l).tups.length ≠ 0 := fun e => by
        rw [List.eq_nil_of_length_eq_zero e] at ht
        cases ht
      unfold Rep.bare at hb
      have h1 : ¬ (rdR l).kind = 1 := fun e => h12 (.inl e)
      have h2 : ¬ (rdR l).kind = 2 := fun e => h12 (.inr e)
      simp [h1, h2] at hb
      have := hb.2.2.1
      rw [this] at h0
      exact h0 rfl
  · intro hne
    have h0 : 0 < (rdR l).tups.length := List.length_pos_iff.2 hne
    have ht : (rdR l).tups = [] ∨ (rdR l).tups = tupsR (wsOf ((rdX l).drop 4)) := by
      unfold rdR parseR
      split
      · left; rfl
      · split
        · right; rfl
        · split
          · left; rfl
          · split
            · left; rfl
            · left; rfl
    rcases ht with ht | ht
    · exact absurd ht hne
    · rw [ht, tupsR_len, hwl] at h0 ⊢
      rw [hlen]
      omega
theorem and8 (x : Nat) (hx : x < 256) : bits .and .u8 (x : Int) 31 = ((x % 32 : Nat) : Int) := by
  have h := bits_mask .u8 8 (by decide) (fun n h0 h1 => by rw [show (2 : Int) ^ 8 = 256 by decide] at h1; rw [IntKind.wrap_u8]; omega) 5 (by decide) (x : Int) (by omega) (by rw [show (2 : Int) ^ 8 = 256 by decide]; omega)
  have e : ((2 : Int) ^ 5 - 1) = 31 := by decide
  rw [e] at h
  rw [h]
  simp
theorem _root_.Go.Proofs.Ytnchgmemajmkjaa.OwnOut.out8 {w w' : World} {l : List UInt8} {e : Ending} (h : OwnOut w l e w') : Out8 w l e w' := by
  obtain ⟨v, rfl, o, hb⟩ := h
  exact o.out hb
/-- A new report's value; a new block for it. -/
def repC (w : World) (r : Rep) : ClF (keepF w) := .pred (fun v W => ∃ x : Rv, v = x.val ∧ x.r = r ∧ IsR W W.heap.size x ∧ x.Lies w.heap.size W.heap.size ∧ x.Typed W) (fun v a b _ hf _ h => by
  obtain ⟨x, e, hr, hi, hl, ht⟩ := h
  exact ⟨x, e, hr, hi.on hf, fun ad had => ⟨(hl ad had).1, Nat.lt_of_lt_of_le (hl ad had).2 hf.size⟩, ht.on hl hf⟩)
theorem repC_of {w : World} {r : Rep} {c : ClF (keepF w)} {v : Value} {W : World} (h : c.holds v W) (e : c = repC w r) : ∃ x : Rv, v = x.val ∧ x.r = r ∧ IsR W W.heap.size x ∧ x.Lies w.heap.size W.heap.size ∧ x.Typed W := by subst e; exact h
def newB (w : World) : ClF (keepF w) := .pred (fun v W => ∃ g, v = .pointer (some ⟨g, 0, none⟩) ∧ w.heap.size ≤ g ∧ Blk W g 33 #[Value.int .i64 0, .int .u32 0, .int .u32 0, .slice none 0 0, .slice none 0 0, .slice none 0 0, .int .u64 0, .int .i64 0, .int .i64 0, .slice none 0 0]) (fun v a b _ hf _ h => by
  obtain ⟨g, e, hg, hb⟩ := h
  exact ⟨g, e, hg, hb.below hf hb.lt⟩)
theorem newB_of {w : World} {c : ClF (keepF w)} {v : Value} {W : World} (h : c.holds v W) (e : c = newB w) : ∃ g, v = .pointer (some ⟨g, 0, none⟩) ∧ w.heap.size ≤ g ∧ Blk W g 33 #[Value.int .i64 0, .int .u32 0, .int .u32 0, .slice none 0 0, .slice none 0 0, .slice none 0 0, .int .u64 0, .int .i64 0, .int .i64 0, .slice none 0 0] := by subst e; exact h
/-- The row of reports with one more, appended from a literal of one. -/
theorem lit_rr (x : Rv) (W : World) (cs : Array Value) (hc : cs = x.cells.toArray) : RX (W.alloc (.cells cs 33)) (W.alloc (.cells cs 33)).heap.size (some ⟨W.heap.size, 0, none⟩) 1 1 10 (cellsR [x]) := by
  subst hc
  have hB : Blk (W.alloc (.cells x.cells.toArray 33)) W.heap.size 33 x.cells.toArray := Blk.new _ _ _
  refine ⟨by simp [cellsR, Rv.cells], Nat.le_refl _, fun _ => ⟨W.heap.size, 0, rfl, by simp, fun j v hj => ?_⟩⟩
  rw [Nat.zero_add, hB.cell j]
  simpa [cellsR] using hj
theorem rr_push {w W : World} {v : Value} {L : List Rv} {x : Rv} {lo k0 : Nat} (hw : w.heap.size ≤ W.heap.size) (bw : Below w.heap.size w W) (row : RowR W w.heap.size v L) (hx : IsR W W.heap.size x) (hl : x.Lies lo W.heap.size) (hk : ∀ k, v.ownBlock = some k → k < lo) (cs : Array Value) (v' : Value) (w' : World)
    (ha : AppG (W.alloc (.cells cs 33)) w.heap.size 33 10 v (L.length + 1) (cellsR L ++ cellsR [x]) v' w') : RowR w' w.heap.size v' (L ++ [x]) ∧ Below w.heap.size w w' := by
  have hA : Below W.heap.size W (W.alloc (.cells cs 33)) := (Below.refl _ W).alloc (Nat.le_refl _) _
  refine ⟨(row.on hA).push (hx.on hA) (fun k h ad had e => by have := hk k h; have := (hl ad had).1; omega) (fun ad had => Nat.lt_of_lt_of_le (hl ad had).2 hA.size) ha, ?_⟩
  refine below_grown (bw.trans (hA.mono hw)) (Nat.le_trans hw hA.size) ha.2.1 fun k h => ?_
  have ho := row.own
  unfold OwnR at ho
  rcases ho.2 with ⟨hv, _⟩ | ⟨g, cap, cur, hv, hb, _⟩
  · subst hv
    simp [Value.ownBlock] at h
  · subst hv
    simp [Value.ownBlock] at h
    omega
theorem row_lt {w : World} {base : Nat} {v : Value} {L : List Rv} (h : RowR w base v L) : ∀ k, v.ownBlock = some k → k < w.heap.size := by
  intro k hk
  have ho := h.own
  unfold OwnR at ho
  rcases ho.2 with ⟨hv, _⟩ | ⟨g, cap, cur, hv, hb, hg, _⟩
  · subst hv
    simp [Value.ownBlock] at hk
  · subst hv
    simp [Value.ownBlock] at hk
    have := (Array.getElem?_eq_some_iff.1 hg).1
    omega
/-- What stands at the head of Read's loop. -/
structure RdAt (w : World) (b : List UInt8) (v : Value) (L : List Rv) (f p : Nat) (wr : World) : Prop where
  row : RowR wr w.heap.size v L
  eq : rdReps b = rdAcc f (L.map Rv.r) (b.drop p)
  fuel : b.length < p + f
  few : 4 * L.length ≤ p
  below : Below w.heap.size w wr
set_option maxHeartbeats 4000000 in
theorem ref6_read (A : Option Addr) (n c : Nat) (b : List UInt8) (w : World) (h : R8 w w.heap.size A n c b) (hn : n ≤ 140737488355328) :
    Calls Try.prog 34 #[.slice A n c] w (RdOut w b) := by
  have hbl := h.1
  by_cases h1 : 1500 < n
  · have g1 : (1500 : Int) < (n : Int) := by omega
    have hr : rdReps b = (3, []) := by unfold rdReps; rw [if_pos (by omega)]
    have HR := Lib.hid hr
    clear hr hbl h h1
    go_enter Try.func34, Try.ntmps34
    go_wp2_with fail
    go_ret2
    exact RdOut.no HR.out (Below.refl _ _)
  by_cases h2 : n = 0
  · subst h2
    have hr : rdReps b = (13, []) := by unfold rdReps; rw [if_neg (by omega), if_pos hbl]
    have HR := Lib.hid hr
    clear hr hbl h h1
    go_enter Try.func34, Try.ntmps34
    go_wp2_with fail
    go_ret2
    exact RdOut.no HR.out (Below.refl _ _)
  have g1 : ¬ (1500 : Int) < (n : Int) := by omega
  have g2 : ((n : Int) == 0) = false := by simp; omega
  have hr : rdReps b = rdAcc (b.length + 1) [] b := by unfold rdReps; rw [if_neg (by omega), if_neg (by omega)]
  have hA0 : RdAt w b (.slice none 0 0) [] (b.length + 1) 0 w := ⟨RowR.nil _ _, hr, by omega, by simp, Below.refl _ _⟩
  have HBL := Lib.hid hbl
  have h15 : n ≤ 1500 := by omega
  clear hr hbl h1 h2
  go_enter Try.func34, Try.ntmps34
  go_wp2_with fail
  go_loopw [4, 5, 6, 7, 8, 9, 10, 21, 28] (fun v iv _ _ _ _ _ _ _ wr => ∃ (p f : Nat) (L : List Rv), p ≤ n ∧ iv = .int .i64 (p : Int) ∧ RdAt w b v L f p wr) (fun _ iv _ _ _ _ _ _ _ _ => n - (intOf iv).toNat)
  case atStart => exact ⟨0, _, [], by omega, rfl, hA0⟩
  case round =>
    obtain ⟨p, f, L, hp, rfl, hP⟩ := hrel
    clear hA0
    by_cases hlt : p < n
    · have g3 : decide ((p : Int) < (n : Int)) = true := by simp; omega
      obtain ⟨f, rfl⟩ : ∃ k, f = k + 1 := ⟨f - 1, by have := hP.fuel; have := HBL.out; omega⟩
      have hR := h.on hP.below
      have hget := ref_get_any A n c b wr hR (by omega) ((p : Int) + 2) 2 (by unfold I64; omega)
      have hll : (b.drop p).length = n - p := by rw [List.length_drop, HBL.out]
      have hl0 : (b.drop p).length ≠ 0 := by omega
      by_cases h4 : p + 4 ≤ n
      · have hN : getN b ((p : Int) + 2) 2 = rdN (b.drop p) := by
          unfold getN rdN
          rw [if_pos ⟨by decide, by simp only [thB, decide_eq_true_eq, HBL.out]; omega⟩, List.drop_drop]
          congr 3
        have hok : getB n ((p : Int) + 2) 2 = true := by
          unfold getB
          rw [show szB 2 = true by decide]
          simp only [thB, Bool.true_and, decide_eq_true_eq]
          omega
        rw [hN, hok] at hget
        have hNl := rdN_lt (b.drop p)
        have hcut := ref_cut_any A n c b wr hR (by omega) (p : Int) (4 + 4 * (rdN (b.drop p) : Int)) (by unfold I64; omega)
        by_cases hall : p + (4 + 4 * rdN (b.drop p)) ≤ n
        · have hth : thB n (p : Int) (4 + 4 * (rdN (b.drop p) : Int)) = true := by simp only [thB, decide_eq_true_eq]; omega
          have hcu : cut8 b (p : Int) (4 + 4 * (rdN (b.drop p) : Int)) = rdX (b.drop p) := by
            unfold cut8 rdX
            rw [HBL.out, if_pos hth]
            congr 1
          have hsh : rdShort (b.drop p) = false := by
            unfold rdShort
            simp only [Bool.or_eq_false_iff, decide_eq_false_iff_not, hll]
            omega
          rw [hth, hcu] at hcut
          have hxl : (rdX (b.drop p)).length = 4 + 4 * rdN (b.drop p) := by
            unfold rdX
            rw [List.length_take, hll]
            omega
          have hx0 : (rdX (b.drop p)).getD 0 0 = (b.drop p).getD 0 0 := by
            unfold rdX
            rw [List.getD_eq_getElem?_getD, List.getElem?_take, if_pos (by omega), ← List.getD_eq_getElem?_getD]
          have hx1 : (rdX (b.drop p)).getD 1 0 = (b.drop p).getD 1 0 := by
            unfold rdX
            rw [List.getD_eq_getElem?_getD, List.getElem?_take, if_pos (by omega), ← List.getD_eq_getElem?_getD]
          have HX0 := Lib.hid hx0
          have HX1 := Lib.hid hx1
          have HSH := Lib.hid hsh
          have HEQ := Lib.hid hP.eq
          have HL0 := Lib.hid hl0
          have HXL := Lib.hid hxl
          have HLL := Lib.hid hll
          clear hN hok hth hcu hx0 hx1 hsh hl0 hR hxl hll
          go_wp2_with fail
          ((with_reducible refine hget.mono ?_); rintro e w1 ⟨rfl, rfl⟩)
          clear hget
          go_wp2_with fail
          ((with_reducible refine hcut.mono ?_); rintro e w1 ⟨Ax, nx, cx, rfl, rx, b1⟩)
          clear hcut
          have hbw := hP.below.trans (b1.mono hP.below.size)
          have hrow := hP.row.on b1
          have HNX := Lib.hid (show nx = 4 + 4 * rdN (b.drop p) by rw [← rx.1]; exact HXL.out)
          have hrow0 := row_lt hP.row
          have hwr1 := b1.size
          have HALL := Lib.hid hall
          have hpn := hp
          have hkl := fun k hk => Nat.lt_of_lt_of_le (hrow0 k hk) hwr1
          have HKL := Lib.hid hkl
          clear hkl
          clear hrow0 hwr1
          have hfew := hP.few
          have hfuel := hP.fuel
          have hnx4 : 4 ≤ nx := by have := HNX.out; omega
          have hnx : nx ≤ 262144 := by have := HNX.out; omega
          obtain ⟨gx, ox, rfl, hgx, hxc⟩ := rx.2.2 (by omega)
          have x0 := hxc 0 (by omega)
          have x1 := hxc 1 (by omega)
          rw [HX0.out] at x0
          rw [HX1.out] at x1
          simp only [Nat.add_zero] at x0
          have hform : rdForm (b.drop p) = (decide (((b.drop p).getD 0 0).toNat / 32 ≠ 4) || (decide (((b.drop p).getD 1 0).toNat < 192) || decide (223 < ((b.drop p).getD 1 0).toNat))) := rfl
          have hRR : rdR (b.drop p) = parseR ((((b.drop p).getD 1 0).toNat : Nat) : Int) (((((b.drop p).getD 0 0).toNat % 32 : Nat)) : Int) (wsOf ((rdX (b.drop p)).drop 4)) := rfl
          have hb0 := ((b.drop p).getD 0 0).toNat_lt
          have hb1 := ((b.drop p).getD 1 0).toNat_lt
          have HRR := Lib.hid hRR
          have HFORM := Lib.hid hform
          have g1x : (1 : Int) < (nx : Int) := by omega
          have g0x : (0 : Int) < (nx : Int) := by omega
          have g1n : 1 < nx := by omega
          have g0n : 0 < nx := by omega
          clear hform hRR hxc hP b1
          generalize ((b.drop p).getD 0 0).toNat = X0 at *
          generalize ((b.drop p).getD 1 0).toNat = X1 at *
          by_cases c5 : X0 / 32 = 4
          rotate_left
          · have hf : rdForm (b.drop p) = true := by rw [HFORM.out]; simp [c5]
            have hres := HEQ.out.trans (rdAcc_form HL0.out HSH.out hf)
            have HRES := Lib.hid hres
            have g5 : ((X0 : Int) / 32 != 4) = true := by simp; omega
            clear hres hf c5
            go_wp2_with fail
            go_ret2
            exact RdOut.no HRES.out hbw
          have g5 : ((X0 : Int) / 32 != 4) = false := by simp; omega
          by_cases c6 : X1 < 192
          · have hf : rdForm (b.drop p) = true := by rw [HFORM.out]; simp [c6]
            have hres := HEQ.out.trans (rdAcc_form HL0.out HSH.out hf)
            have HRES := Lib.hid hres
            have g6 : decide ((X1 : Int) < 192) = true := by simp only [decide_eq_true_eq]; omega
            clear hres hf c5 c6
            go_wp2_with fail
            go_ret2
            exact RdOut.no HRES.out hbw
          have g6 : decide ((X1 : Int) < 192) = false := by simp only [decide_eq_false_iff_not]; omega
          by_cases c7 : 223 < X1
          · have hf : rdForm (b.drop p) = true := by rw [HFORM.out]; simp [c7]
            have hres := HEQ.out.trans (rdAcc_form HL0.out HSH.out hf)
            have HRES := Lib.hid hres
            have g7 : decide ((223 : Int) < (X1 : Int)) = true := by simp only [decide_eq_true_eq]; omega
            clear hres hf c5 c6 c7
            go_wp2_with fail
            go_ret2
            exact RdOut.no HRES.out hbw
          have g7 : decide ((223 : Int) < (X1 : Int)) = false := by simp only [decide_eq_false_iff_not]; omega
          have hf : rdForm (b.drop p) = false := by rw [HFORM.out]; simp [c5, c6, c7]
          have HF := Lib.hid hf
          clear hf c5 c6 c7
          go_upto_region 14 with (fail)
          clear g5 g6 g7
          have hy4 : ((rdX (b.drop p)).drop 4).length = 4 * rdN (b.drop p) := by rw [List.length_drop, HXL.out]; omega
          obtain ⟨hwB, hwl, hws⟩ := wB_ws _ _ hy4
          clear hwl
          have hry := rx.cut 4 nx hnx4 (Nat.le_refl _)
          have hcd : ((rdX (b.drop p)).drop 4).take (nx - 4) = (rdX (b.drop p)).drop 4 := List.take_of_length_le (by rw [hy4, HNX.out]; omega)
          rw [hcd, ← hwB] at hry
          have hcx : nx ≤ cx := rx.2.1
          have hA5 := and8 X0 (by omega)
          have hx0w : IntKind.i64.wrap ((X0 % 32 : Nat) : Int) = ((X0 % 32 : Nat) : Int) := by rw [IntKind.wrap_i64]; omega
          have hx1w : IntKind.i64.wrap (X1 : Int) = (X1 : Int) := by rw [IntKind.wrap_i64]; omega
          have hc32 : X0 % 32 < 32 := by omega
          have hrdr := HRR.out
          generalize hR0 : rdR (b.drop p) = R at hrdr
          have HR0 := Lib.hid hR0
          have hpa := fun W hW => ref6_parse (X1 : Int) ((X0 % 32 : Nat) : Int) (cutA (some ⟨gx, ox, none⟩) cx 4) (nx - 4) (cx - 4) (wsOf ((rdX (b.drop p)).drop 4)) W hW hws (by omega) (by unfold I64; omega) (by unfold I64; omega)
          rw [← hrdr] at hpa
          generalize wsOf ((rdX (b.drop p)).drop 4) = ws at hry hpa
          generalize X0 % 32 = C at hA5 hpa hx0w hc32
          have hA5 : bits .and .u8 (X0 : Int) 31 = (C : Int) := hA5
          have HA5 := Lib.hid hA5
          clear hy4 hwB hws hcd hrdr hR0 hA5
          refine wp_region_ft (F := keepF w1) 13 [.val (.slice (some ⟨gx, ox, none⟩) nx cx), .val (.pointer (some ⟨gx, ox + 1, none⟩)), .val (.int .u8 (X1 : Int)), .val (.int .i64 (X1 : Int)), .val (.slice (some ⟨gx, ox, none⟩) nx cx), .val (.pointer (some ⟨gx, ox, none⟩)), .val (.int .u8 (X0 : Int)), .val (.int .u8 (C : Int)), .val (.int .i64 (C : Int)),
              .val (.slice (some ⟨gx, ox, none⟩) nx cx), .val (.slice (cutA (some ⟨gx, ox, none⟩) cx 4) (nx - 4) (cx - 4)), repC w1 R, newB w1]
            (by kernel_rfl) (by kernel_rfl) (by kernel_rfl) (by decide) (by kernel_rfl) (Below.refl _ _) (AllOblF.upto ⟨?_, ?_, ?_, ?_, ?_, ?_, ?_, ?_, ?_, ?_, ?_, ?_, ?_, trivial⟩) ?_
          · exact OblF.move rfl _ (Or.inl rfl) (by kernel_rfl) rfl
          · refine OblF.pure rfl (.pointer (some ⟨gx, ox + 1, none⟩)) (by kernel_rfl) rfl fun ev Z hI hf hx => ?_
            have e61 : ev (.tmp 61) = .slice (some ⟨gx, ox, none⟩) nx cx := holds_valF (hx (.tmp 61)) (by kernel_rfl)
            have k0 : ev (.const (.int .i64 1)) = .int .i64 1 := holds_valF (hx (.const (.int .i64 1))) (by kernel_rfl)
            simp [execOp, e61, k0, go_sem, g1x, g1n]
          · refine OblF.pure rfl (.int .u8 (X1 : Int)) (by kernel_rfl) rfl fun ev Z hI hf hx => ?_
            have e62 : ev (.tmp 62) = .pointer (some ⟨gx, ox + 1, none⟩) := holds_valF (hx (.tmp 62)) (by kernel_rfl)
            have d4 := (Below.cell (p := ⟨gx, ox + 1, none⟩) hI hgx).trans x1
            simp [execOp, e62, go_sem, d4]
          · refine OblF.pure rfl (.int .i64 (X1 : Int)) (by kernel_rfl) rfl fun ev Z hI hf hx => ?_
            have e63 : ev (.tmp 63) = .int .u8 (X1 : Int) := holds_valF (hx (.tmp 63)) (by kernel_rfl)
            simp [execOp, e63, go_sem, hx1w]
          · exact OblF.move rfl _ (Or.inl rfl) (by kernel_rfl) rfl
          · refine OblF.pure rfl (.pointer (some ⟨gx, ox, none⟩)) (by kernel_rfl) rfl fun ev Z hI hf hx => ?_
            have e65 : ev (.tmp 65) = .slice (some ⟨gx, ox, none⟩) nx cx := holds_valF (hx (.tmp 65)) (by kernel_rfl)
            have k0 : ev (.const (.int .i64 0)) = .int .i64 0 := holds_valF (hx (.const (.int .i64 0))) (by kernel_rfl)
            simp [execOp, e65, k0, go_sem, g0x, g0n]
          · refine OblF.pure rfl (.int .u8 (X0 : Int)) (by kernel_rfl) rfl fun ev Z hI hf hx => ?_
            have e66 : ev (.tmp 66) = .pointer (some ⟨gx, ox, none⟩) := holds_valF (hx (.tmp 66)) (by kernel_rfl)
            have d4 := (Below.cell (p := ⟨gx, ox, none⟩) hI hgx).trans x0
            simp [execOp, e66, go_sem, d4]
          · refine OblF.pure rfl (.int .u8 (C : Int)) (by kernel_rfl) rfl fun ev Z hI hf hx => ?_
            have e67 : ev (.tmp 67) = .int .u8 (X0 : Int) := holds_valF (hx (.tmp 67)) (by kernel_rfl)
            have k0 : ev (.const (.int .u8 31)) = .int .u8 31 := holds_valF (hx (.const (.int .u8 31))) (by kernel_rfl)
            simp [execOp, e67, k0, go_sem, HA5.out]
          · refine OblF.pure rfl (.int .i64 (C : Int)) (by kernel_rfl) rfl fun ev Z hI hf hx => ?_
            have e68 : ev (.tmp 68) = .int .u8 (C : Int) := holds_valF (hx (.tmp 68)) (by kernel_rfl)
            simp [execOp, e68, go_sem, hx0w]
          · exact OblF.move rfl _ (Or.inl rfl) (by kernel_rfl) rfl
          · refine OblF.pure rfl (.slice (cutA (some ⟨gx, ox, none⟩) cx 4) (nx - 4) (cx - 4)) (by kernel_rfl) rfl fun ev Z hI hf hx => ?_
            have e70 : ev (.tmp 70) = .slice (some ⟨gx, ox, none⟩) nx cx := holds_valF (hx (.tmp 70)) (by kernel_rfl)
            have k0 : ev (.const (.int .i64 4)) = .int .i64 4 := holds_valF (hx (.const (.int .i64 4))) (by kernel_rfl)
            have h1 := run_fromB Z (some ⟨gx, ox, none⟩) nx cx 4 4 rfl hnx4 hcx
            simp [execOp, e70, k0, go_sem, Instr.sliceAt, h1]
          · refine OblF.call rfl 57 #[.tmp 64, .tmp 69, .tmp 71] _ rfl Try.f57 Try.func57 (by kernel_rfl) (by kernel_rfl) rfl fun ev Z hI hf hx => ?_
            have e64 : ev (.tmp 64) = .int .i64 (X1 : Int) := holds_valF (hx (.tmp 64)) (by kernel_rfl)
            have e69 : ev (.tmp 69) = .int .i64 (C : Int) := holds_valF (hx (.tmp 69)) (by kernel_rfl)
            have e71 : ev (.tmp 71) = .slice (cutA (some ⟨gx, ox, none⟩) cx 4) (nx - 4) (cx - 4) := holds_valF (hx (.tmp 71)) (by kernel_rfl)
            simp only [List.map_toArray, List.map_cons, List.map_nil, e64, e69, e71]
            refine (hpa Z (hry.on hI)).mono ?_
            rintro e W' ⟨x, rfl, hxr, hxi, hxl, hxt, hbW⟩
            exact ⟨_, rfl, Below.trans hI (hbW.mono (Below.size hI)), hbW, x, rfl, hxr, hxi, fun ad had => ⟨Nat.le_trans (Below.size hI) (hxl ad had).1, (hxl ad had).2⟩, hxt⟩
          · refine OblF.step rfl fun ev Z hI hf hx => ?_
            refine ⟨.pointer (some ⟨Z.heap.size, 0, none⟩), Z.alloc (.cells #[Value.int .i64 0, .int .u32 0, .int .u32 0, .slice none 0 0, .slice none 0 0, .slice none 0 0, .int .u64 0, .int .i64 0, .int .i64 0, .slice none 0 0] 33), ?_, ?_, ?_, ?_⟩
            · simp [execOp, go_sem]
            · exact Below.trans hI (((Below.refl Z.heap.size Z).alloc (Nat.le_refl _) _).mono (Below.size hI))
            · exact (Below.refl Z.heap.size Z).alloc (Nat.le_refl _) _
            · exact ⟨Z.heap.size, rfl, Below.size hI, Blk.new _ _ _⟩
          intro aa W hI hf hsz hdf hold hv
          obtain ⟨x, v72, hxr, hxi, hxlies, hxty⟩ := repC_of (r := R) (hv 11 (by decide)) (by kernel_rfl)
          obtain ⟨gr, v10, hgr, hblk⟩ := newB_of (hv 12 (by decide)) (by kernel_rfl)
          have v72 : aa.tmps.getD 72 undef = x.val := v72
          have v10 : aa.tmps.getD 10 undef = .pointer (some ⟨gr, 0, none⟩) := v10
          obtain ⟨r, At, ct, Aa, ca, An, cn, Ab, cb⟩ := x
          simp only at hxr
          subst hxr
          have v72 : aa.tmps.getD 72 undef = .agg #[.int .i64 r.kind, .int .u32 (r.src : Int), .int .u32 (r.about : Int), .slice At r.tups.length ct, .slice Aa r.abouts.length ca, .slice An r.nums.length cn, .int .u64 (r.rate : Int), .int .i64 r.ty, .int .i64 r.count, .slice Ab r.body.length cb] := v72
          have ha := act_puts [61, 62, 63, 64, 65, 66, 67, 68, 69, 70, 71, 72, 10] (by kernel_rfl) hsz hdf hold
          simp only [putAll, v72, v10] at ha
          generalize aa.tmps.getD 61 undef = x61 at ha
          generalize aa.tmps.getD 62 undef = x62 at ha
          generalize aa.tmps.getD 63 undef = x63 at ha
          generalize aa.tmps.getD 64 undef = x64 at ha
          generalize aa.tmps.getD 65 undef = x65 at ha
          generalize aa.tmps.getD 66 undef = x66 at ha
          generalize aa.tmps.getD 67 undef = x67 at ha
          generalize aa.tmps.getD 68 undef = x68 at ha
          generalize aa.tmps.getD 69 undef = x69 at ha
          generalize aa.tmps.getD 70 undef = x70 at ha
          generalize aa.tmps.getD 71 undef = x71 at ha
          clear v72 v10 hv hold hsz hdf
          clear v72 v10
          clear v72
          subst ha
          simp only [List.toList_toArray, List.drop_succ_cons, List.drop_zero, Act.put, List.setIfInBounds_toArray, List.set_cons_succ, List.set_cons_zero]
          have hoffg : Rv.Off ⟨r, At, ct, Aa, ca, An, cn, Ab, cb⟩ gr := fun ad had e => hxty ad had _ _ (by rw [e]; exact hblk)
          obtain ⟨y0, y1, y2, y3, y4, y5, y6, y7, y8, y9⟩ := blk10 hblk
          obtain ⟨z0, z1, z2, z3, z4, z5, z6, z7, z8, z9⟩ := frz10 hblk
          clear hf hpa hry HA5 hx0w hx1w
          go_upto_region 15 with (fail)
          clear y0 y1 y2 y3 y4 y5 y6 y7 y8 y9 z0 z1 z2 z3 z4 z5 z6 z7 z8 z9
          have hF := set10_blk (W := W) (R := gr) (v0 := .int .i64 r.kind) (v1 := .int .u32 (r.src : Int)) (v2 := .int .u32 (r.about : Int)) (v3 := .slice At r.tups.length ct) (v4 := .slice Aa r.abouts.length ca) (v5 := .slice An r.nums.length cn) (v6 := .int .u64 (r.rate : Int)) (v7 := .int .i64 r.ty) (v8 := .int .i64 r.count) (v9 := .slice Ab r.body.length cb) hblk
          have bI : Below w1.heap.size w1 (set10 W gr (.int .i64 r.kind) (.int .u32 (r.src : Int)) (.int .u32 (r.about : Int)) (.slice At r.tups.length ct) (.slice Aa r.abouts.length ca) (.slice An r.nums.length cn) (.int .u64 (r.rate : Int)) (.int .i64 r.ty) (.int .i64 r.count) (.slice Ab r.body.length cb)) := Below.trans hI (set10_below hgr)
          have hX := hxi.but (but_set10 W gr (.int .i64 r.kind) (.int .u32 (r.src : Int)) (.int .u32 (r.about : Int)) (.slice At r.tups.length ct) (.slice Aa r.abouts.length ca) (.slice An r.nums.length cn) (.int .u64 (r.rate : Int)) (.int .i64 r.ty) (.int .i64 r.count) (.slice Ab r.body.length cb)) hoffg
          have hS : (set10 W gr (.int .i64 r.kind) (.int .u32 (r.src : Int)) (.int .u32 (r.about : Int)) (.slice At r.tups.length ct) (.slice Aa r.abouts.length ca) (.slice An r.nums.length cn) (.int .u64 (r.rate : Int)) (.int .i64 r.ty) (.int .i64 r.count) (.slice Ab r.body.length cb)).heap.size = W.heap.size := set10_size
          rw [← hS] at hxlies
          clear hS hI hxi hblk hoffg hxty
          change Code.wp _ _ _ _ (set10 W gr (.int .i64 r.kind) (.int .u32 (r.src : Int)) (.int .u32 (r.about : Int)) (.slice At r.tups.length ct) (.slice Aa r.abouts.length ca) (.slice An r.nums.length cn) (.int .u64 (r.rate : Int)) (.int .i64 r.ty) (.int .i64 r.count) (.slice Ab r.body.length cb))
          generalize set10 W gr (.int .i64 r.kind) (.int .u32 (r.src : Int)) (.int .u32 (r.about : Int)) (.slice At r.tups.length ct) (.slice Aa r.abouts.length ca) (.slice An r.nums.length cn) (.int .u64 (r.rate : Int)) (.int .i64 r.ty) (.int .i64 r.count) (.slice Ab r.body.length cb) = W2 at hF bI hX hxlies ⊢
          obtain ⟨y0, y1, y2, y3, y4, y5, y6, y7, y8, y9⟩ := blk10 hF
          have hg2 : gr < W2.heap.size := hF.lt
          have rx2 := rx.on bI
          have row2 := hrow.on bI
          have bw2 := hbw.trans (bI.mono hbw.size)
          have hRt := fun Z (hZ : IsR Z Z.heap.size ⟨r, At, ct, Aa, ca, An, cn, Ab, cb⟩) => ref6_right _ Z hZ
          have hOn := fun (he : r.err = 0) Z (hZ : IsR Z Z.heap.size ⟨r, At, ct, Aa, ca, An, cn, Ab, cb⟩) => (ref6_one _ Z hZ he).mono fun _ _ hh => OwnOut.out8 hh
          have hSt := fun (he : r.err = 0) Z (hZ : IsR Z Z.heap.size ⟨r, At, ct, Aa, ca, An, cn, Ab, cb⟩) (hx : R8 Z Z.heap.size (some ⟨gx, ox, none⟩) nx cx (rdX (b.drop p))) => (ref6_short _ nx cx _ _ Z hx (by omega) hZ (by have := (rdR_ok HSH.out (by rw [HR0.out]; exact he)).1; rwa [HR0.out] at this) (by have := (rdR_ok HSH.out (by rw [HR0.out]; exact he)).2; rwa [HR0.out] at this)).mono fun _ _ hh => OwnOut.out8 hh
          simp only [Rv.val, Rv.cells] at hRt hOn hSt
          have HBAD := Lib.hid (show rdBad (b.drop p) = (decide (r.err ≠ 0) || decide (r.one ≠ shortB (rdX (b.drop p)) r)) by unfold rdBad; rw [HR0.out])
          clear rx hrow hbw bI x0 x1
          by_cases he : r.err = 0
          rotate_left
          · have hbad : rdBad (b.drop p) = true := by rw [HBAD.out]; simp [he]
            have hres := HEQ.out.trans (rdAcc_bad HL0.out HSH.out HF.out hbad)
            have HRES := Lib.hid hres
            have hne : (r.err != 0) = true := by simpa using he
            clear hres hbad he hOn hSt
            refine wp_region_tbl [.val (.agg #[.int .i64 r.kind, .int .u32 (r.src : Int), .int .u32 (r.about : Int), .slice At r.tups.length ct, .slice Aa r.abouts.length ca, .slice An r.nums.length cn, .int .u64 (r.rate : Int), .int .i64 r.ty, .int .i64 r.count, .slice Ab r.body.length cb]), .val (.int .i64 r.err), .val (.bool true), .val (.bool true), .val (undef), .val (undef), .val (undef), .val (undef), .val (undef), .val (undef), .val (undef), .val (undef), .val (.bool true)] (by kernel_rfl) (by kernel_rfl) (by kernel_rfl) (AllObl.all ⟨?_, ?_, ?_, ?_, ?_, ?_, ?_, ?_, ?_, ?_, ?_, ?_, ?_, trivial⟩) ?_
            · exact Obl.pure trivial (.agg #[.int .i64 r.kind, .int .u32 (r.src : Int), .int .u32 (r.about : Int), .slice At r.tups.length ct, .slice Aa r.abouts.length ca, .slice An r.nums.length cn, .int .u64 (r.rate : Int), .int .i64 r.ty, .int .i64 r.count, .slice Ab r.body.length cb]) (by kernel_rfl) (fun ev w hb hx => by
                have e10 : ev (.tmp 10) = .pointer (some ⟨gr, 0, none⟩) := holds_val (hx (.tmp 10)) (by kernel_rfl)
                (have m0 := (((drew_below _).trans hb).cell (p := ⟨gr, 0, none⟩) hg2).trans y0; have m1 := (((drew_below _).trans hb).cell (p := ⟨gr, 1, none⟩) hg2).trans y1; have m2 := (((drew_below _).trans hb).cell (p := ⟨gr, 2, none⟩) hg2).trans y2; have m3 := (((drew_below _).trans hb).cell (p := ⟨gr, 3, none⟩) hg2).trans y3; have m4 := (((drew_below _).trans hb).cell (p := ⟨gr, 4, none⟩) hg2).trans y4; have m5 := (((drew_below _).trans hb).cell (p := ⟨gr, 5, none⟩) hg2).trans y5; have m6 := (((drew_below _).trans hb).cell (p := ⟨gr, 6, none⟩) hg2).trans y6; have m7 := (((drew_below _).trans hb).cell (p := ⟨gr, 7, none⟩) hg2).trans y7; have m8 := (((drew_below _).trans hb).cell (p := ⟨gr, 8, none⟩) hg2).trans y8; have m9 := (((drew_below _).trans hb).cell (p := ⟨gr, 9, none⟩) hg2).trans y9; simp [execOp, e10, go_sem, m0, m1, m2, m3, m4, m5, m6, m7, m8, m9]))
            · exact Obl.call trivial 32 #[.tmp 73] _ rfl Try.f32 Try.func32 (by kernel_rfl) (by kernel_rfl) (fun ev w hb hx => by
                have e73 : ev (.tmp 73) = .agg #[.int .i64 r.kind, .int .u32 (r.src : Int), .int .u32 (r.about : Int), .slice At r.tups.length ct, .slice Aa r.abouts.length ca, .slice An r.nums.length cn, .int .u64 (r.rate : Int), .int .i64 r.ty, .int .i64 r.count, .slice Ab r.body.length cb] := holds_val (hx (.tmp 73)) (by kernel_rfl)
                simp only [List.map_toArray, List.map_cons, List.map_nil, e73]
                exact (hRt _ (hX.on ((drew_below _).trans hb))).mono fun _ _ hh => Val.holds (by kernel_rfl) hh)
            · exact Obl.bin trivial .neq _ (.tmp 74) (.const (.int .i64 0)) _ rfl (.int .i64 r.err) (.int .i64 0) (.bool true) (by kernel_rfl) (by kernel_rfl) (fun w => by simp [eqGuard, go_sem, hne]) (by kernel_rfl)
            · exact Obl.move trivial _ (Or.inl rfl) (by kernel_rfl)
            · exact Obl.skip 3 false (.bool true) rfl (by kernel_rfl) (by kernel_rfl) (by kernel_rfl) (by kernel_rfl) (fun w => holds_undef (by kernel_rfl))
            · exact Obl.skip 3 false (.bool true) rfl (by kernel_rfl) (by kernel_rfl) (by kernel_rfl) (by kernel_rfl) (fun w => holds_undef (by kernel_rfl))
            · exact Obl.skip 3 false (.bool true) rfl (by kernel_rfl) (by kernel_rfl) (by kernel_rfl) (by kernel_rfl) (fun w => holds_undef (by kernel_rfl))
            · exact Obl.skip 3 false (.bool true) rfl (by kernel_rfl) (by kernel_rfl) (by kernel_rfl) (by kernel_rfl) (fun w => holds_undef (by kernel_rfl))
            · exact Obl.skip 3 false (.bool true) rfl (by kernel_rfl) (by kernel_rfl) (by kernel_rfl) (by kernel_rfl) (fun w => holds_undef (by kernel_rfl))
            · exact Obl.skip 3 false (.bool true) rfl (by kernel_rfl) (by kernel_rfl) (by kernel_rfl) (by kernel_rfl) (fun w => holds_undef (by kernel_rfl))
            · exact Obl.skip 3 false (.bool true) rfl (by kernel_rfl) (by kernel_rfl) (by kernel_rfl) (by kernel_rfl) (fun w => holds_undef (by kernel_rfl))
            · exact Obl.skip 3 false (.bool true) rfl (by kernel_rfl) (by kernel_rfl) (by kernel_rfl) (by kernel_rfl) (fun w => holds_undef (by kernel_rfl))
            · exact Obl.pick trivial _ _ _ rfl true (by kernel_rfl) (by kernel_rfl)
            intro a WR hb hsz hdf hold hv
            have ha := act_puts [73, 74, 75, 76, 77, 78, 79, 80, 81, 82, 83, 84, 85] (by kernel_rfl) hsz hdf hold
            simp only [putAll] at ha
            have z85 : a.tmps.getD 85 undef = .bool true := holds_val (hv 12 85 (by kernel_rfl)) (by kernel_rfl)
            rw [z85] at ha
            generalize a.tmps.getD 73 undef = x73 at ha
            generalize a.tmps.getD 74 undef = x74 at ha
            generalize a.tmps.getD 75 undef = x75 at ha
            generalize a.tmps.getD 76 undef = x76 at ha
            generalize a.tmps.getD 77 undef = x77 at ha
            generalize a.tmps.getD 78 undef = x78 at ha
            generalize a.tmps.getD 79 undef = x79 at ha
            generalize a.tmps.getD 80 undef = x80 at ha
            generalize a.tmps.getD 81 undef = x81 at ha
            generalize a.tmps.getD 82 undef = x82 at ha
            generalize a.tmps.getD 83 undef = x83 at ha
            generalize a.tmps.getD 84 undef = x84 at ha
            clear hv hold hsz hdf z85
            subst ha
            simp only [Act.put, List.setIfInBounds_toArray, List.set_cons_succ, List.set_cons_zero]
            have bw3 := bw2.trans (((drew_below _).trans hb).mono bw2.size)
            clear hb y0 y1 y2 y3 y4 y5 y6 y7 y8 y9 hRt rx2 row2
            go_wp2_with fail
            go_ret2
            exact RdOut.no HRES.out bw3
          by_cases hos : r.one = shortB (rdX (b.drop p)) r
          rotate_left
          · have hbad : rdBad (b.drop p) = true := by rw [HBAD.out]; simp [hos]
            have hres := HEQ.out.trans (rdAcc_bad HL0.out HSH.out HF.out hbad)
            have HRES := Lib.hid hres
            have hOn := hOn he
            have hSt := hSt he
            have hne : (r.one != shortB (rdX (b.drop p)) r) = true := by simpa using hos
            rw [he] at hRt
            generalize shortB (rdX (b.drop p)) r = SB at hSt hne
            generalize r.one = OB at hOn hne
            clear hres hbad he hos
            refine wp_region_tbl [.val (.agg #[.int .i64 r.kind, .int .u32 (r.src : Int), .int .u32 (r.about : Int), .slice At r.tups.length ct, .slice Aa r.abouts.length ca, .slice An r.nums.length cn, .int .u64 (r.rate : Int), .int .i64 r.ty, .int .i64 r.count, .slice Ab r.body.length cb]), .val (.int .i64 0), .val (.bool false), .val (.bool false), .val (.agg #[.int .i64 r.kind, .int .u32 (r.src : Int), .int .u32 (r.about : Int), .slice At r.tups.length ct, .slice Aa r.abouts.length ca, .slice An r.nums.length cn, .int .u64 (r.rate : Int), .int .i64 r.ty, .int .i64 r.count, .slice Ab r.body.length cb]), .bytes (OB), .val (.string ⟨(OB).toArray⟩), .val (.slice (some ⟨gx, ox, none⟩) nx cx), .val (.agg #[.int .i64 r.kind, .int .u32 (r.src : Int), .int .u32 (r.about : Int), .slice At r.tups.length ct, .slice Aa r.abouts.length ca, .slice An r.nums.length cn, .int .u64 (r.rate : Int), .int .i64 r.ty, .int .i64 r.count, .slice Ab r.body.length cb]), .bytes (SB), .val (.string ⟨(SB).toArray⟩), .val (.bool true), .val (.bool true)] (by kernel_rfl) (by kernel_rfl) (by kernel_rfl) (AllObl.all ⟨?_, ?_, ?_, ?_, ?_, ?_, ?_, ?_, ?_, ?_, ?_, ?_, ?_, trivial⟩) ?_
            · exact Obl.pure trivial (.agg #[.int .i64 r.kind, .int .u32 (r.src : Int), .int .u32 (r.about : Int), .slice At r.tups.length ct, .slice Aa r.abouts.length ca, .slice An r.nums.length cn, .int .u64 (r.rate : Int), .int .i64 r.ty, .int .i64 r.count, .slice Ab r.body.length cb]) (by kernel_rfl) (fun ev w hb hx => by
                have e10 : ev (.tmp 10) = .pointer (some ⟨gr, 0, none⟩) := holds_val (hx (.tmp 10)) (by kernel_rfl)
                (have m0 := (((drew_below _).trans hb).cell (p := ⟨gr, 0, none⟩) hg2).trans y0; have m1 := (((drew_below _).trans hb).cell (p := ⟨gr, 1, none⟩) hg2).trans y1; have m2 := (((drew_below _).trans hb).cell (p := ⟨gr, 2, none⟩) hg2).trans y2; have m3 := (((drew_below _).trans hb).cell (p := ⟨gr, 3, none⟩) hg2).trans y3; have m4 := (((drew_below _).trans hb).cell (p := ⟨gr, 4, none⟩) hg2).trans y4; have m5 := (((drew_below _).trans hb).cell (p := ⟨gr, 5, none⟩) hg2).trans y5; have m6 := (((drew_below _).trans hb).cell (p := ⟨gr, 6, none⟩) hg2).trans y6; have m7 := (((drew_below _).trans hb).cell (p := ⟨gr, 7, none⟩) hg2).trans y7; have m8 := (((drew_below _).trans hb).cell (p := ⟨gr, 8, none⟩) hg2).trans y8; have m9 := (((drew_below _).trans hb).cell (p := ⟨gr, 9, none⟩) hg2).trans y9; simp [execOp, e10, go_sem, m0, m1, m2, m3, m4, m5, m6, m7, m8, m9]))
            · exact Obl.call trivial 32 #[.tmp 73] _ rfl Try.f32 Try.func32 (by kernel_rfl) (by kernel_rfl) (fun ev w hb hx => by
                have e73 : ev (.tmp 73) = .agg #[.int .i64 r.kind, .int .u32 (r.src : Int), .int .u32 (r.about : Int), .slice At r.tups.length ct, .slice Aa r.abouts.length ca, .slice An r.nums.length cn, .int .u64 (r.rate : Int), .int .i64 r.ty, .int .i64 r.count, .slice Ab r.body.length cb] := holds_val (hx (.tmp 73)) (by kernel_rfl)
                simp only [List.map_toArray, List.map_cons, List.map_nil, e73]
                exact (hRt _ (hX.on ((drew_below _).trans hb))).mono fun _ _ hh => Val.holds (by kernel_rfl) hh)
            · exact Obl.bin trivial .neq _ (.tmp 74) (.const (.int .i64 0)) _ rfl (.int .i64 0) (.int .i64 0) (.bool false) (by kernel_rfl) (by kernel_rfl) (fun w => by simp [eqGuard, go_sem]) (by kernel_rfl)
            · exact Obl.move trivial _ (Or.inl rfl) (by kernel_rfl)
            · exact Obl.pure ⟨by kernel_rfl, by kernel_rfl, by kernel_rfl⟩ (.agg #[.int .i64 r.kind, .int .u32 (r.src : Int), .int .u32 (r.about : Int), .slice At r.tups.length ct, .slice Aa r.abouts.length ca, .slice An r.nums.length cn, .int .u64 (r.rate : Int), .int .i64 r.ty, .int .i64 r.count, .slice Ab r.body.length cb]) (by kernel_rfl) (fun ev w hb hx => by
                have e10 : ev (.tmp 10) = .pointer (some ⟨gr, 0, none⟩) := holds_val (hx (.tmp 10)) (by kernel_rfl)
                (have m0 := (((drew_below _).trans hb).cell (p := ⟨gr, 0, none⟩) hg2).trans y0; have m1 := (((drew_below _).trans hb).cell (p := ⟨gr, 1, none⟩) hg2).trans y1; have m2 := (((drew_below _).trans hb).cell (p := ⟨gr, 2, none⟩) hg2).trans y2; have m3 := (((drew_below _).trans hb).cell (p := ⟨gr, 3, none⟩) hg2).trans y3; have m4 := (((drew_below _).trans hb).cell (p := ⟨gr, 4, none⟩) hg2).trans y4; have m5 := (((drew_below _).trans hb).cell (p := ⟨gr, 5, none⟩) hg2).trans y5; have m6 := (((drew_below _).trans hb).cell (p := ⟨gr, 6, none⟩) hg2).trans y6; have m7 := (((drew_below _).trans hb).cell (p := ⟨gr, 7, none⟩) hg2).trans y7; have m8 := (((drew_below _).trans hb).cell (p := ⟨gr, 8, none⟩) hg2).trans y8; have m9 := (((drew_below _).trans hb).cell (p := ⟨gr, 9, none⟩) hg2).trans y9; simp [execOp, e10, go_sem, m0, m1, m2, m3, m4, m5, m6, m7, m8, m9]))
            · exact Obl.call ⟨by kernel_rfl, by kernel_rfl, by kernel_rfl⟩ 33 #[.tmp 77] _ rfl Try.f33 Try.func33 (by kernel_rfl) (by kernel_rfl) (fun ev w hb hx => by
                have e77 : ev (.tmp 77) = .agg #[.int .i64 r.kind, .int .u32 (r.src : Int), .int .u32 (r.about : Int), .slice At r.tups.length ct, .slice Aa r.abouts.length ca, .slice An r.nums.length cn, .int .u64 (r.rate : Int), .int .i64 r.ty, .int .i64 r.count, .slice Ab r.body.length cb] := holds_val (hx (.tmp 77)) (by kernel_rfl)
                simp only [List.map_toArray, List.map_cons, List.map_nil, e77]
                exact (hOn _ (hX.on ((drew_below _).trans hb))).mono fun _ _ hh => Out8.holds (by kernel_rfl) hh)
            · exact Obl.str (x := .tmp 78) ⟨by kernel_rfl, by kernel_rfl, by kernel_rfl⟩ 31 5 9 rfl Try.underlying31 Try.underlying5 Try.underlying9 (OB) (.inl (by kernel_rfl)) (by kernel_rfl)
            · exact Obl.move ⟨by kernel_rfl, by kernel_rfl, by kernel_rfl⟩ _ (Or.inl rfl) (by kernel_rfl)
            · exact Obl.pure ⟨by kernel_rfl, by kernel_rfl, by kernel_rfl⟩ (.agg #[.int .i64 r.kind, .int .u32 (r.src : Int), .int .u32 (r.about : Int), .slice At r.tups.length ct, .slice Aa r.abouts.length ca, .slice An r.nums.length cn, .int .u64 (r.rate : Int), .int .i64 r.ty, .int .i64 r.count, .slice Ab r.body.length cb]) (by kernel_rfl) (fun ev w hb hx => by
                have e10 : ev (.tmp 10) = .pointer (some ⟨gr, 0, none⟩) := holds_val (hx (.tmp 10)) (by kernel_rfl)
                (have m0 := (((drew_below _).trans hb).cell (p := ⟨gr, 0, none⟩) hg2).trans y0; have m1 := (((drew_below _).trans hb).cell (p := ⟨gr, 1, none⟩) hg2).trans y1; have m2 := (((drew_below _).trans hb).cell (p := ⟨gr, 2, none⟩) hg2).trans y2; have m3 := (((drew_below _).trans hb).cell (p := ⟨gr, 3, none⟩) hg2).trans y3; have m4 := (((drew_below _).trans hb).cell (p := ⟨gr, 4, none⟩) hg2).trans y4; have m5 := (((drew_below _).trans hb).cell (p := ⟨gr, 5, none⟩) hg2).trans y5; have m6 := (((drew_below _).trans hb).cell (p := ⟨gr, 6, none⟩) hg2).trans y6; have m7 := (((drew_below _).trans hb).cell (p := ⟨gr, 7, none⟩) hg2).trans y7; have m8 := (((drew_below _).trans hb).cell (p := ⟨gr, 8, none⟩) hg2).trans y8; have m9 := (((drew_below _).trans hb).cell (p := ⟨gr, 9, none⟩) hg2).trans y9; simp [execOp, e10, go_sem, m0, m1, m2, m3, m4, m5, m6, m7, m8, m9]))
            · exact Obl.call ⟨by kernel_rfl, by kernel_rfl, by kernel_rfl⟩ 58 #[.tmp 80, .tmp 81] _ rfl Try.f58 Try.func58 (by kernel_rfl) (by kernel_rfl) (fun ev w hb hx => by
                have e80 : ev (.tmp 80) = .slice (some ⟨gx, ox, none⟩) nx cx := holds_val (hx (.tmp 80)) (by kernel_rfl)
                have e81 : ev (.tmp 81) = .agg #[.int .i64 r.kind, .int .u32 (r.src : Int), .int .u32 (r.about : Int), .slice At r.tups.length ct, .slice Aa r.abouts.length ca, .slice An r.nums.length cn, .int .u64 (r.rate : Int), .int .i64 r.ty, .int .i64 r.count, .slice Ab r.body.length cb] := holds_val (hx (.tmp 81)) (by kernel_rfl)
                simp only [List.map_toArray, List.map_cons, List.map_nil, e80, e81]
                exact (hSt _ (hX.on ((drew_below _).trans hb)) (rx2.on ((drew_below _).trans hb))).mono fun _ _ hh => Out8.holds (by kernel_rfl) hh)
            · exact Obl.str (x := .tmp 82) ⟨by kernel_rfl, by kernel_rfl, by kernel_rfl⟩ 31 5 9 rfl Try.underlying31 Try.underlying5 Try.underlying9 (SB) (.inl (by kernel_rfl)) (by kernel_rfl)
            · exact Obl.bin ⟨by kernel_rfl, by kernel_rfl, by kernel_rfl⟩ .neq _ (.tmp 79) (.tmp 83) _ rfl (.string ⟨(OB).toArray⟩) (.string ⟨(SB).toArray⟩) (.bool true) (by kernel_rfl) (by kernel_rfl) (fun w => neq_strs _ _ _ hne _ _ w) (by kernel_rfl)
            · exact Obl.pick trivial _ _ _ rfl false (by kernel_rfl) (by kernel_rfl)
            intro a WR hb hsz hdf hold hv
            have ha := act_puts [73, 74, 75, 76, 77, 78, 79, 80, 81, 82, 83, 84, 85] (by kernel_rfl) hsz hdf hold
            simp only [putAll] at ha
            have z85 : a.tmps.getD 85 undef = .bool true := holds_val (hv 12 85 (by kernel_rfl)) (by kernel_rfl)
            rw [z85] at ha
            generalize a.tmps.getD 73 undef = x73 at ha
            generalize a.tmps.getD 74 undef = x74 at ha
            generalize a.tmps.getD 75 undef = x75 at ha
            generalize a.tmps.getD 76 undef = x76 at ha
            generalize a.tmps.getD 77 undef = x77 at ha
            generalize a.tmps.getD 78 undef = x78 at ha
            generalize a.tmps.getD 79 undef = x79 at ha
            generalize a.tmps.getD 80 undef = x80 at ha
            generalize a.tmps.getD 81 undef = x81 at ha
            generalize a.tmps.getD 82 undef = x82 at ha
            generalize a.tmps.getD 83 undef = x83 at ha
            generalize a.tmps.getD 84 undef = x84 at ha
            clear hv hold hsz hdf z85
            subst ha
            simp only [Act.put, List.setIfInBounds_toArray, List.set_cons_succ, List.set_cons_zero]
            have bw3 := bw2.trans (((drew_below _).trans hb).mono bw2.size)
            clear hb y0 y1 y2 y3 y4 y5 y6 y7 y8 y9 hRt rx2 row2 hOn hSt
            go_wp2_with fail
            go_ret2
            exact RdOut.no HRES.out bw3
          have hbad : rdBad (b.drop p) = false := by rw [HBAD.out]; simp [he, hos]
          have hres := HEQ.out.trans (rdAcc_more HL0.out HSH.out HF.out hbad)
          have HRES := Lib.hid hres
          have hOn := hOn he
          have hSt := hSt he
          have hne : (r.one != shortB (rdX (b.drop p)) r) = false := by simpa using hos
          rw [he] at hRt
          generalize shortB (rdX (b.drop p)) r = SB at hSt hne
          generalize r.one = OB at hOn hne
          clear hres hbad he hos
          refine wp_region_tbl [.val (.agg #[.int .i64 r.kind, .int .u32 (r.src : Int), .int .u32 (r.about : Int), .slice At r.tups.length ct, .slice Aa r.abouts.length ca, .slice An r.nums.length cn, .int .u64 (r.rate : Int), .int .i64 r.ty, .int .i64 r.count, .slice Ab r.body.length cb]), .val (.int .i64 0), .val (.bool false), .val (.bool false), .val (.agg #[.int .i64 r.kind, .int .u32 (r.src : Int), .int .u32 (r.about : Int), .slice At r.tups.length ct, .slice Aa r.abouts.length ca, .slice An r.nums.length cn, .int .u64 (r.rate : Int), .int .i64 r.ty, .int .i64 r.count, .slice Ab r.body.length cb]), .bytes (OB), .val (.string ⟨(OB).toArray⟩), .val (.slice (some ⟨gx, ox, none⟩) nx cx), .val (.agg #[.int .i64 r.kind, .int .u32 (r.src : Int), .int .u32 (r.about : Int), .slice At r.tups.length ct, .slice Aa r.abouts.length ca, .slice An r.nums.length cn, .int .u64 (r.rate : Int), .int .i64 r.ty, .int .i64 r.count, .slice Ab r.body.length cb]), .bytes (SB), .val (.string ⟨(SB).toArray⟩), .val (.bool false), .val (.bool false)] (by kernel_rfl) (by kernel_rfl) (by kernel_rfl) (AllObl.all ⟨?_, ?_, ?_, ?_, ?_, ?_, ?_, ?_, ?_, ?_, ?_, ?_, ?_, trivial⟩) ?_
          · exact Obl.pure trivial (.agg #[.int .i64 r.kind, .int .u32 (r.src : Int), .int .u32 (r.about : Int), .slice At r.tups.length ct, .slice Aa r.abouts.length ca, .slice An r.nums.length cn, .int .u64 (r.rate : Int), .int .i64 r.ty, .int .i64 r.count, .slice Ab r.body.length cb]) (by kernel_rfl) (fun ev w hb hx => by
              have e10 : ev (.tmp 10) = .pointer (some ⟨gr, 0, none⟩) := holds_val (hx (.tmp 10)) (by kernel_rfl)
              (have m0 := (((drew_below _).trans hb).cell (p := ⟨gr, 0, none⟩) hg2).trans y0; have m1 := (((drew_below _).trans hb).cell (p := ⟨gr, 1, none⟩) hg2).trans y1; have m2 := (((drew_below _).trans hb).cell (p := ⟨gr, 2, none⟩) hg2).trans y2; have m3 := (((drew_below _).trans hb).cell (p := ⟨gr, 3, none⟩) hg2).trans y3; have m4 := (((drew_below _).trans hb).cell (p := ⟨gr, 4, none⟩) hg2).trans y4; have m5 := (((drew_below _).trans hb).cell (p := ⟨gr, 5, none⟩) hg2).trans y5; have m6 := (((drew_below _).trans hb).cell (p := ⟨gr, 6, none⟩) hg2).trans y6; have m7 := (((drew_below _).trans hb).cell (p := ⟨gr, 7, none⟩) hg2).trans y7; have m8 := (((drew_below _).trans hb).cell (p := ⟨gr, 8, none⟩) hg2).trans y8; have m9 := (((drew_below _).trans hb).cell (p := ⟨gr, 9, none⟩) hg2).trans y9; simp [execOp, e10, go_sem, m0, m1, m2, m3, m4, m5, m6, m7, m8, m9]))
          · exact Obl.call trivial 32 #[.tmp 73] _ rfl Try.f32 Try.func32 (by kernel_rfl) (by kernel_rfl) (fun ev w hb hx => by
              have e73 : ev (.tmp 73) = .agg #[.int .i64 r.kind, .int .u32 (r.src : Int), .int .u32 (r.about : Int), .slice At r.tups.length ct, .slice Aa r.abouts.length ca, .slice An r.nums.length cn, .int .u64 (r.rate : Int), .int .i64 r.ty, .int .i64 r.count, .slice Ab r.body.length cb] := holds_val (hx (.tmp 73)) (by kernel_rfl)
              simp only [List.map_toArray, List.map_cons, List.map_nil, e73]
              exact (hRt _ (hX.on ((drew_below _).trans hb))).mono fun _ _ hh => Val.holds (by kernel_rfl) hh)
          · exact Obl.bin trivial .neq _ (.tmp 74) (.const (.int .i64 0)) _ rfl (.int .i64 0) (.int .i64 0) (.bool false) (by kernel_rfl) (by kernel_rfl) (fun w => by simp [eqGuard, go_sem]) (by kernel_rfl)
          · exact Obl.move trivial _ (Or.inl rfl) (by kernel_rfl)
          · exact Obl.pure ⟨by kernel_rfl, by kernel_rfl, by kernel_rfl⟩ (.agg #[.int .i64 r.kind, .int .u32 (r.src : Int), .int .u32 (r.about : Int), .slice At r.tups.length ct, .slice Aa r.abouts.length ca, .slice An r.nums.length cn, .int .u64 (r.rate : Int), .int .i64 r.ty, .int .i64 r.count, .slice Ab r.body.length cb]) (by kernel_rfl) (fun ev w hb hx => by
              have e10 : ev (.tmp 10) = .pointer (some ⟨gr, 0, none⟩) := holds_val (hx (.tmp 10)) (by kernel_rfl)
              (have m0 := (((drew_below _).trans hb).cell (p := ⟨gr, 0, none⟩) hg2).trans y0; have m1 := (((drew_below _).trans hb).cell (p := ⟨gr, 1, none⟩) hg2).trans y1; have m2 := (((drew_below _).trans hb).cell (p := ⟨gr, 2, none⟩) hg2).trans y2; have m3 := (((drew_below _).trans hb).cell (p := ⟨gr, 3, none⟩) hg2).trans y3; have m4 := (((drew_below _).trans hb).cell (p := ⟨gr, 4, none⟩) hg2).trans y4; have m5 := (((drew_below _).trans hb).cell (p := ⟨gr, 5, none⟩) hg2).trans y5; have m6 := (((drew_below _).trans hb).cell (p := ⟨gr, 6, none⟩) hg2).trans y6; have m7 := (((drew_below _).trans hb).cell (p := ⟨gr, 7, none⟩) hg2).trans y7; have m8 := (((drew_below _).trans hb).cell (p := ⟨gr, 8, none⟩) hg2).trans y8; have m9 := (((drew_below _).trans hb).cell (p := ⟨gr, 9, none⟩) hg2).trans y9; simp [execOp, e10, go_sem, m0, m1, m2, m3, m4, m5, m6, m7, m8, m9]))
          · exact Obl.call ⟨by kernel_rfl, by kernel_rfl, by kernel_rfl⟩ 33 #[.tmp 77] _ rfl Try.f33 Try.func33 (by kernel_rfl) (by kernel_rfl) (fun ev w hb hx => by
              have e77 : ev (.tmp 77) = .agg #[.int .i64 r.kind, .int .u32 (r.src : Int), .int .u32 (r.about : Int), .slice At r.tups.length ct, .slice Aa r.abouts.length ca, .slice An r.nums.length cn, .int .u64 (r.rate : Int), .int .i64 r.ty, .int .i64 r.count, .slice Ab r.body.length cb] := holds_val (hx (.tmp 77)) (by kernel_rfl)
              simp only [List.map_toArray, List.map_cons, List.map_nil, e77]
              exact (hOn _ (hX.on ((drew_below _).trans hb))).mono fun _ _ hh => Out8.holds (by kernel_rfl) hh)
          · exact Obl.str (x := .tmp 78) ⟨by kernel_rfl, by kernel_rfl, by kernel_rfl⟩ 31 5 9 rfl Try.underlying31 Try.underlying5 Try.underlying9 (OB) (.inl (by kernel_rfl)) (by kernel_rfl)
          · exact Obl.move ⟨by kernel_rfl, by kernel_rfl, by kernel_rfl⟩ _ (Or.inl rfl) (by kernel_rfl)
          · exact Obl.pure ⟨by kernel_rfl, by kernel_rfl, by kernel_rfl⟩ (.agg #[.int .i64 r.kind, .int .u32 (r.src : Int), .int .u32 (r.about : Int), .slice At r.tups.length ct, .slice Aa r.abouts.length ca, .slice An r.nums.length cn, .int .u64 (r.rate : Int), .int .i64 r.ty, .int .i64 r.count, .slice Ab r.body.length cb]) (by kernel_rfl) (fun ev w hb hx => by
              have e10 : ev (.tmp 10) = .pointer (some ⟨gr, 0, none⟩) := holds_val (hx (.tmp 10)) (by kernel_rfl)
              (have m0 := (((drew_below _).trans hb).cell (p := ⟨gr, 0, none⟩) hg2).trans y0; have m1 := (((drew_below _).trans hb).cell (p := ⟨gr, 1, none⟩) hg2).trans y1; have m2 := (((drew_below _).trans hb).cell (p := ⟨gr, 2, none⟩) hg2).trans y2; have m3 := (((drew_below _).trans hb).cell (p := ⟨gr, 3, none⟩) hg2).trans y3; have m4 := (((drew_below _).trans hb).cell (p := ⟨gr, 4, none⟩) hg2).trans y4; have m5 := (((drew_below _).trans hb).cell (p := ⟨gr, 5, none⟩) hg2).trans y5; have m6 := (((drew_below _).trans hb).cell (p := ⟨gr, 6, none⟩) hg2).trans y6; have m7 := (((drew_below _).trans hb).cell (p := ⟨gr, 7, none⟩) hg2).trans y7; have m8 := (((drew_below _).trans hb).cell (p := ⟨gr, 8, none⟩) hg2).trans y8; have m9 := (((drew_below _).trans hb).cell (p := ⟨gr, 9, none⟩) hg2).trans y9; simp [execOp, e10, go_sem, m0, m1, m2, m3, m4, m5, m6, m7, m8, m9]))
          · exact Obl.call ⟨by kernel_rfl, by kernel_rfl, by kernel_rfl⟩ 58 #[.tmp 80, .tmp 81] _ rfl Try.f58 Try.func58 (by kernel_rfl) (by kernel_rfl) (fun ev w hb hx => by
              have e80 : ev (.tmp 80) = .slice (some ⟨gx, ox, none⟩) nx cx := holds_val (hx (.tmp 80)) (by kernel_rfl)
              have e81 : ev (.tmp 81) = .agg #[.int .i64 r.kind, .int .u32 (r.src : Int), .int .u32 (r.about : Int), .slice At r.tups.length ct, .slice Aa r.abouts.length ca, .slice An r.nums.length cn, .int .u64 (r.rate : Int), .int .i64 r.ty, .int .i64 r.count, .slice Ab r.body.length cb] := holds_val (hx (.tmp 81)) (by kernel_rfl)
              simp only [List.map_toArray, List.map_cons, List.map_nil, e80, e81]
              exact (hSt _ (hX.on ((drew_below _).trans hb)) (rx2.on ((drew_below _).trans hb))).mono fun _ _ hh => Out8.holds (by kernel_rfl) hh)
          · exact Obl.str (x := .tmp 82) ⟨by kernel_rfl, by kernel_rfl, by kernel_rfl⟩ 31 5 9 rfl Try.underlying31 Try.underlying5 Try.underlying9 (SB) (.inl (by kernel_rfl)) (by kernel_rfl)
          · exact Obl.bin ⟨by kernel_rfl, by kernel_rfl, by kernel_rfl⟩ .neq _ (.tmp 79) (.tmp 83) _ rfl (.string ⟨(OB).toArray⟩) (.string ⟨(SB).toArray⟩) (.bool false) (by kernel_rfl) (by kernel_rfl) (fun w => neq_strs _ _ _ hne _ _ w) (by kernel_rfl)
          · exact Obl.pick trivial _ _ _ rfl false (by kernel_rfl) (by kernel_rfl)
          intro a WR hb hsz hdf hold hv
          have ha := act_puts [73, 74, 75, 76, 77, 78, 79, 80, 81, 82, 83, 84, 85] (by kernel_rfl) hsz hdf hold
          simp only [putAll] at ha
          have z85 : a.tmps.getD 85 undef = .bool false := holds_val (hv 12 85 (by kernel_rfl)) (by kernel_rfl)
          rw [z85] at ha
          generalize a.tmps.getD 73 undef = x73 at ha
          generalize a.tmps.getD 74 undef = x74 at ha
          generalize a.tmps.getD 75 undef = x75 at ha
          generalize a.tmps.getD 76 undef = x76 at ha
          generalize a.tmps.getD 77 undef = x77 at ha
          generalize a.tmps.getD 78 undef = x78 at ha
          generalize a.tmps.getD 79 undef = x79 at ha
          generalize a.tmps.getD 80 undef = x80 at ha
          generalize a.tmps.getD 81 undef = x81 at ha
          generalize a.tmps.getD 82 undef = x82 at ha
          generalize a.tmps.getD 83 undef = x83 at ha
          generalize a.tmps.getD 84 undef = x84 at ha
          clear hv hold hsz hdf z85
          subst ha
          simp only [Act.put, List.setIfInBounds_toArray, List.set_cons_succ, List.set_cons_zero]
          have bW3 := (drew_below W2).trans hb
          have bw3 := bw2.trans (bW3.mono bw2.size)
          have hX3 := hX.on bW3
          have row3 := row2.on bW3
          have hF3 := hF.below bW3 hg2
          have hlies3 : Rv.Lies ⟨r, At, ct, Aa, ca, An, cn, Ab, cb⟩ w1.heap.size WR.heap.size := fun ad had => ⟨(hxlies ad had).1, Nat.lt_of_lt_of_le (hxlies ad had).2 bW3.size⟩
          clear hb y0 y1 y2 y3 y4 y5 y6 y7 y8 y9 hRt rx2 row2 hOn hSt hX hF hxlies hg2 bW3 bw2
          obtain ⟨y0, y1, y2, y3, y4, y5, y6, y7, y8, y9⟩ := blk10 hF3
          have hL4 : L.length ≤ 400 := by omega
          have hM : L.length + 1 ≤ maxLen := by simp only [maxLen]; omega
          have hBy : (L.length + 1) * 136 ≤ 140737488355328 := by omega
          have HP := Lib.hid (fun cs v' w' ha => rr_push (k0 := 0) bw3.size bw3 row3 hX3 hlies3 HKL.out cs v' w' ha)
          have HO := Lib.hid (show ∀ cs, (WR.alloc (.cells cs 33)).ownsRow w.heap.size 33 10 _ L.length (cellsR L) from fun cs => (row3.on ((Below.refl WR.heap.size WR).alloc (Nat.le_refl _) _)).own)
          have HZ := Lib.hid (show ∀ cs, w.heap.size ≤ (WR.alloc (.cells cs 33)).heap.size from fun cs => Nat.le_trans bw3.size ((Below.refl WR.heap.size WR).alloc (Nat.le_refl _) _).size)
          have HLI := Lib.hid (show RX (WR.alloc (.cells #[.int .i64 r.kind, .int .u32 (r.src : Int), .int .u32 (r.about : Int), .slice At r.tups.length ct, .slice Aa r.abouts.length ca, .slice An r.nums.length cn, .int .u64 (r.rate : Int), .int .i64 r.ty, .int .i64 r.count, .slice Ab r.body.length cb] 33)) (WR.alloc (.cells #[.int .i64 r.kind, .int .u32 (r.src : Int), .int .u32 (r.about : Int), .slice At r.tups.length ct, .slice Aa r.abouts.length ca, .slice An r.nums.length cn, .int .u64 (r.rate : Int), .int .i64 r.ty, .int .i64 r.count, .slice Ab r.body.length cb] 33)).heap.size (some ⟨WR.heap.size, 0, none⟩) 1 1 10 (cellsR [⟨r, At, ct, Aa, ca, An, cn, Ab, cb⟩]) from lit_rr ⟨r, At, ct, Aa, ca, An, cn, Ab, cb⟩ WR _ rfl)
          have HM := Lib.hid hM
          have HBY := Lib.hid hBy
          clear hL4 hM hBy row3 hX3 hlies3 bw3 hF3
          have hfew' : 4 * L.length ≤ p := hfew
          have HFEW := Lib.hid hfew'
          clear hfew hfew'
          have hpx : p + nx ≤ n := by rw [HNX.out]; exact HALL.out
          have HFU := Lib.hid hfuel
          clear hfuel hall hA5 hNl hnx hb0 hb1 hc32 g1x g0x g1n g0n hcx hp hpn h hne
          clear hOn hSt
          clear HRR HFORM HBAD HX0 HX1 HSH HEQ HL0 HLL HF
          generalize hXX : rdN (b.drop p) = RN at *
          have HXX := Lib.hid hXX
          clear hXX
          go_wp2_with (at_builtin; go_loud ((with_reducible refine wpList_appendX rfl (.tmp 86) (.tmp 88) 36 36 33 rfl rfl (.agg #[.int .i64 0, .int .u32 0, .int .u32 0, .slice none 0 0, .slice none 0 0, .slice none 0 0, .int .u64 0, .int .i64 0, .int .i64 0, .slice none 0 0]) 10 136 Try.underlying36 report_info rfl (by omega) w.heap.size _ L.length (cellsR L) (by with_unfolding_all rfl) (HO.out _) _ _ 1 1 (cellsR [⟨r, At, ct, Aa, ca, An, cn, Ab, cb⟩]) (by with_unfolding_all rfl) HLI.out (cellsR_one _) HM.out HBY.out (HZ.out _) ?_); intro v7 W7 ha7; have hp7 := HP.out _ v7 W7 ha7; clear ha7))
          obtain ⟨row7, bw7⟩ := hp7
          go_roundw
          case rel =>
            have hN := HNX.out
            have hA := HALL.out
            have hF := HFEW.out
            have hfuel := HFU.out
            refine ⟨p + nx, f, L ++ [⟨r, At, ct, Aa, ca, An, cn, Ab, cb⟩], by omega, by go_num, ⟨row7, ?_, by omega, by rw [List.length_append]; simp only [List.length_cons, List.length_nil]; omega, bw7⟩⟩
            rw [HRES.out, HR0.out, List.map_append, List.drop_drop, ← hN]
            rfl
          case measure => simp [intOf]; omega
        · have hth : thB n (p : Int) (4 + 4 * (rdN (b.drop p) : Int)) = false := by simp only [thB, decide_eq_false_iff_not]; omega
          have hsh : rdShort (b.drop p) = true := by
            unfold rdShort
            simp only [Bool.or_eq_true, decide_eq_true_eq, hll]
            omega
          have hres := hP.eq.trans (rdAcc_short hl0 hsh)
          have HRES := Lib.hid hres
          rw [hth] at hcut
          generalize cut8 b (p : Int) (4 + 4 * (rdN (b.drop p) : Int)) = CB at hcut
          clear hN hok hth hsh hl0 hR hll hres hall
          go_wp2_with fail
          ((with_reducible refine hget.mono ?_); rintro e w1 ⟨rfl, rfl⟩)
          clear hget
          go_wp2_with fail
          ((with_reducible refine hcut.mono ?_); rintro e w1 ⟨Ax, nx, cx, rfl, rx, b1⟩)
          clear hcut
          have hbw := hP.below.trans (b1.mono hP.below.size)
          clear rx b1 hP
          go_wp2_with fail
          go_ret2
          exact RdOut.no HRES.out hbw
      · have hN : getN b ((p : Int) + 2) 2 = 0 := by
          unfold getN
          rw [if_neg]
          intro hc
          have := hc.2
          simp only [thB, decide_eq_true_eq, HBL.out] at this
          omega
        have hok : getB n ((p : Int) + 2) 2 = false := by
          unfold getB
          rw [show szB 2 = true by decide]
          simp only [thB, Bool.true_and, decide_eq_false_iff_not]
          omega
        rw [hN, hok] at hget
        have hcut := ref_cut_any A n c b wr hR (by omega) (p : Int) 4 (by unfold I64; omega)
        have hth : thB n (p : Int) 4 = false := by simp only [thB, decide_eq_false_iff_not]; omega
        have hsh : rdShort (b.drop p) = true := by
          unfold rdShort
          simp only [Bool.or_eq_true, decide_eq_true_eq, hll]
          omega
        have hres := hP.eq.trans (rdAcc_short hl0 hsh)
        have HRES := Lib.hid hres
        rw [hth] at hcut
        generalize cut8 b (p : Int) 4 = CB at hcut
        clear hN hok hth hsh hl0 hR hll hres h4
        go_wp2_with fail
        ((with_reducible refine hget.mono ?_); rintro e w1 ⟨rfl, rfl⟩)
        clear hget
        go_wp2_with fail
        ((with_reducible refine hcut.mono ?_); rintro e w1 ⟨Ax, nx, cx, rfl, rx, b1⟩)
        clear hcut
        have hbw := hP.below.trans (b1.mono hP.below.size)
        clear rx b1 hP
        go_wp2_with fail
        go_ret2
        exact RdOut.no HRES.out hbw
    · have g3 : decide ((p : Int) < (n : Int)) = false := by simp; omega
      obtain ⟨A', c', rfl, hrr⟩ := hP.row.rr
      have hl0 : (b.drop p).length = 0 := by rw [List.length_drop, HBL.out]; omega
      have hres := hP.eq.trans (rdAcc_end hl0)
      have HRES := Lib.hid hres
      have h4L : L.length ≤ 400 := by have := hP.few; omega
      have hout : RdOut w b (.returned (.tuple #[.slice A' L.length c', .int .i64 0])) wr := ⟨A', _, c', L, by rw [HRES.out], by rw [HRES.out], hrr, h4L, hP.below⟩
      have HOUT := Lib.hid hout
      clear hl0 hres hrr hP h4L hout
      go_wp2_with fail
      go_ret2
      exact HOUT.out
end Go.Proofs.Ytnchgmemajmkjaa.RP
