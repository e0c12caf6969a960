/- Contract: rtcp.Read. -/
import Derived.Test.YtnchgmemajmkjaaMe
import Derived.Test.YtnchgmemajmkjaaMa
import Derived.Deep.RegionHeld3
import Derived.Deep.DrawnRows
namespace Go.Proofs.Ytnchgmemajmkjaa.RP
open Go.RowKit
set_option linter.unusedVariables false
set_option linter.unusedSimpArgs false
set_option maxRecDepth 20000

/-- Bytes in new memory, beside true. -/
def OutN (w : World) (l : List UInt8) (e : Ending) (w' : World) : Prop :=
  ∃ A c, e = .returned (.tuple #[.slice A l.length c, .bool true]) ∧ R8 w' w'.heap.size A l.length c l ∧ Below w.heap.size w w' ∧ (∀ ad, A = some ad → w.heap.size ≤ ad.block ∧ ad.block < w'.heap.size)
theorem cut_new (A : Option Addr) (n c : Nat) (l : List UInt8) (w : World) (h : R8 w w.heap.size A n c l) (hn : n ≤ 140737488355328) (i k : Nat) (ht : i + k ≤ n) :
    Calls Try.prog 44 #[.slice A n c, .int .i64 i, .int .i64 k] w (OutN w ((l.drop i).take k)) := by
  have hc := h.2.1
  have hi : I64 i := by unfold I64; omega
  have ht' : thB n i k = true := by simp [thB]; omega
  have hcut := fun W => run_cut (P := Try.prog) 31 5 Try.underlying31 u8_size A n c .i64 .i64 i (i + k) (by omega) (by omega) (by omega) W
  have hr := h.cut i (i + k) (by omega) ht
  have e1 : i + k - i = k := by omega
  have e2 : ((i : Int) + (k : Int)).toNat = i + k := by omega
  simp only [e1, e2, Int.toNat_natCast] at hcut hr
  clear e1 e2
  obtain ⟨L, hL⟩ : ∃ L, L = (l.drop i).take k := ⟨_, rfl⟩
  rw [← hL] at hr ⊢
  clear hL h
  go_enter Try.func44, Try.ntmps44
  go_wp2_with (first | (go_at_call 65; refine (there_any _ _ _ _ _ _ hi (by omega)).mono ?_; rintro e w' ⟨rfl, rfl⟩) | (go_at_call 66; refine (longer_zero _ _ _ _ _ hr (by omega)).mono ?_; rintro e w' ⟨g, m, rfl, hm, hg, hgb, hb⟩))
  go_ret2
  unfold Len at hm
  subst hm
  exact ⟨_, _, rfl, hg.r8 rfl (Nat.le_refl _), hb, fun ad e => by injection e with e; subst e; exact ⟨hgb, hg.lt⟩⟩
theorem rdX_drop (l : List UInt8) : (rdX l).drop 4 = (l.drop 4).take (4 * rdN l) := by
  unfold rdX
  rw [List.drop_take]
  congr 1
  omega
theorem set10_cell {W : World} {R k o : Nat} {v0 v1 v2 v3 v4 v5 v6 v7 v8 v9 : Value} (hk : k ≠ R) : (set10 W R v0 v1 v2 v3 v4 v5 v6 v7 v8 v9).cell? ⟨k, o, none⟩ = W.cell? ⟨k, o, none⟩ := World.cell?_of_block (set10_far hk)
set_option maxHeartbeats 4000000 in
attribute [local go_sem ↓] Go.wp_at_zero Go.wp_at_succ in
theorem rtcp_read (A : Option Addr) (n c : Nat) (b : List UInt8) (w : World) (h : R8 w w.heap.size A n c b) (hn : n ≤ 140737488355328) :
    Calls Try.prog 20 #[.slice A n c] w (RdOut w b) := by
  have hbl := h.1
  by_cases h1 : 1500 < n
  · have g1 : (1500 : Int) < (n : Int) := by omega
    have hr : rdReps b = (3, []) := by unfold rdReps; rw [if_pos (by omega)]
    have HR := Lib.hid hr
    clear hr hbl h h1
    go_enter Try.func20, Try.ntmps20
    go_wp2_with fail
    go_ret2
    exact RdOut.no HR.out (Below.refl _ _)
  by_cases h2 : n = 0
  · subst h2
    have hr : rdReps b = (13, []) := by unfold rdReps; rw [if_neg (by omega), if_pos hbl]
    have HR := Lib.hid hr
    clear hr hbl h h1
    go_enter Try.func20, Try.ntmps20
    go_wp2_with fail
    go_ret2
    exact RdOut.no HR.out (Below.refl _ _)
  have g1 : ¬ (1500 : Int) < (n : Int) := by omega
  have g2 : ((n : Int) == 0) = false := by simp; omega
  have hr : rdReps b = rdAcc (b.length + 1) [] b := by unfold rdReps; rw [if_neg (by omega), if_neg (by omega)]
  have hA0 : RdAt w b (.slice none 0 0) [] (b.length + 1) 0 w := ⟨RowR.nil _ _, hr, by omega, by simp, Below.refl _ _⟩
  have HBL := Lib.hid hbl
  have h15 : n ≤ 1500 := by omega
  clear hr hbl h1 h2
  go_enter Try.func20, Try.ntmps20
  go_wp2_with fail
  go_loopw [4, 5] (fun v iv wr => ∃ (p f : Nat) (L : List Rv), p ≤ n ∧ iv = .int .i64 (p : Int) ∧ RdAt w b v L f p wr) (fun _ iv _ => n - (intOf iv).toNat)
  case atStart => exact ⟨0, _, [], by omega, rfl, hA0⟩
  case round =>
    obtain ⟨p, f, L, hp, rfl, hP⟩ := hrel
    clear hA0
    by_cases hlt : p < n
    rotate_left
    · have g3 : decide ((p : Int) < (n : Int)) = false := by simp; omega
      obtain ⟨A', c', rfl, hrr⟩ := hP.row.rr
      have hl0 : (b.drop p).length = 0 := by rw [List.length_drop, HBL.out]; omega
      have hres := hP.eq.trans (rdAcc_end hl0)
      have HRES := Lib.hid hres
      have h4L : L.length ≤ 400 := by have := hP.few; omega
      have hout : RdOut w b (.returned (.tuple #[.slice A' L.length c', .int .i64 0])) wr := ⟨A', _, c', L, by rw [HRES.out], by rw [HRES.out], hrr, h4L, hP.below⟩
      have HOUT := Lib.hid hout
      clear hl0 hres hrr hP h4L hout
      go_wp2_with fail
      go_ret2
      exact HOUT.out
    have g3 : decide ((p : Int) < (n : Int)) = true := by simp; omega
    obtain ⟨f, rfl⟩ : ∃ k, f = k + 1 := ⟨f - 1, by have := hP.fuel; have := HBL.out; omega⟩
    have hR := h.on hP.below
    have hget := get_any A n c b wr hR (by omega) ((p : Int) + 2) 2 (by unfold I64; omega)
    have hll : (b.drop p).length = n - p := by rw [List.length_drop, HBL.out]
    have hl0 : (b.drop p).length ≠ 0 := by omega
    by_cases h4 : p + 4 ≤ n
    rotate_left
    · have hN : getN b ((p : Int) + 2) 2 = 0 := by
        unfold getN
        rw [if_neg]
        intro hc
        have := hc.2
        simp only [thB, decide_eq_true_eq, HBL.out] at this
        omega
      have hok : getB n ((p : Int) + 2) 2 = false := by
        unfold getB
        rw [show szB 2 = true by decide]
        simp only [thB, Bool.true_and, decide_eq_false_iff_not]
        omega
      rw [hN, hok] at hget
      have hsh : rdShort (b.drop p) = true := by
        unfold rdShort
        simp only [Bool.or_eq_true, decide_eq_true_eq, hll]
        omega
      have hres := hP.eq.trans (rdAcc_short hl0 hsh)
      have HRES := Lib.hid hres
      have hbw := hP.below
      clear hN hok hsh hl0 hR hll hres h4 hP
      go_wp2_with fail
      ((with_reducible refine hget.mono ?_); rintro e w1 ⟨rfl, rfl⟩)
      clear hget
      go_wp2_with fail
      go_ret2
      exact RdOut.no HRES.out hbw
    have hN : getN b ((p : Int) + 2) 2 = rdN (b.drop p) := by
      unfold getN rdN
      rw [if_pos ⟨by decide, by simp only [thB, decide_eq_true_eq, HBL.out]; omega⟩, List.drop_drop]
      congr 3
    have hok : getB n ((p : Int) + 2) 2 = true := by
      unfold getB
      rw [show szB 2 = true by decide]
      simp only [thB, Bool.true_and, decide_eq_true_eq]
      omega
    rw [hN, hok] at hget
    have hNl := rdN_lt (b.drop p)
    by_cases hall : p + (4 + 4 * rdN (b.drop p)) ≤ n
    rotate_left
    · have hcut := cut_no A n c wr (by omega) ((p : Int) + 4) (4 * (rdN (b.drop p) : Int)) (by unfold I64; omega) (by simp only [thB, decide_eq_false_iff_not]; omega)
      have hsh : rdShort (b.drop p) = true := by
        unfold rdShort
        simp only [Bool.or_eq_true, decide_eq_true_eq, hll]
        omega
      have hres := hP.eq.trans (rdAcc_short hl0 hsh)
      have HRES := Lib.hid hres
      have hbw := hP.below
      clear hN hok hsh hl0 hR hll hres hall hP
      go_wp2_with fail
      ((with_reducible refine hget.mono ?_); rintro e w1 ⟨rfl, rfl⟩)
      clear hget
      go_wp2_with fail
      ((with_reducible refine hcut.mono ?_); rintro e w1 ⟨rfl, rfl⟩)
      clear hcut
      go_wp2_with fail
      go_ret2
      exact RdOut.no HRES.out hbw
    have hcut := cut_new A n c b wr hR (by omega) (p + 4) (4 * rdN (b.drop p)) (by omega)
    have hcu : (b.drop (p + 4)).take (4 * rdN (b.drop p)) = (rdX (b.drop p)).drop 4 := by rw [rdX_drop, List.drop_drop]
    rw [hcu] at hcut
    have hsh : rdShort (b.drop p) = false := by
      unfold rdShort
      simp only [Bool.or_eq_false_iff, decide_eq_false_iff_not, hll]
      omega
    obtain ⟨hxe, hwm⟩ := rdX_eq hsh
    have hxl : (rdX (b.drop p)).length = 4 + 4 * rdN (b.drop p) := by
      unfold rdX
      rw [List.length_take, hll]
      omega
    have hwb : wB (wsOf ((rdX (b.drop p)).drop 4)) = (rdX (b.drop p)).drop 4 := (wB_ws (rdN (b.drop p)) _ (by rw [List.length_drop, hxl]; omega)).1
    have hbl4 : ((rdX (b.drop p)).drop 4).length = 4 * rdN (b.drop p) := by rw [List.length_drop, hxl]; omega
    rw [← hwb] at hcut hbl4
    have hoke := ok_eq hsh
    have hRR : rdR (b.drop p) = parseR ((((b.drop p).getD 1 0).toNat : Nat) : Int) (((((b.drop p).getD 0 0).toNat % 32 : Nat)) : Int) (wsOf ((rdX (b.drop p)).drop 4)) := rfl
    obtain ⟨bb, off, rfl, hbb, hcell⟩ := hR.2.2 (by omega)
    have x0 := hcell p (by omega)
    have x1 := hcell (p + 1) (by omega)
    have e0 : b.getD p 0 = (b.drop p).getD 0 0 := by simp [List.getD_eq_getElem?_getD]
    have e1 : b.getD (p + 1) 0 = (b.drop p).getD 1 0 := by simp [List.getD_eq_getElem?_getD]
    rw [e0] at x0
    rw [e1] at x1
    have hb0 := ((b.drop p).getD 0 0).toNat_lt
    have hb1 := ((b.drop p).getD 1 0).toNat_lt
    have hone := fun A' n' c' W Pb h' hn' hlo hA' => rtcp_readOne ((b.drop p).getD 0 0).toNat ((b.drop p).getD 1 0).toNat A' n' c' (wsOf ((rdX (b.drop p)).drop 4)) W Pb (by omega) (by omega) h' hwm hn' hlo hA'
    unfold OneAns at hone
    have HSH := Lib.hid hsh
    have HL0 := Lib.hid hl0
    have HOK := Lib.hid hoke
    have HRR := Lib.hid hRR
    have HBL4 := Lib.hid hbl4
    have HALL := Lib.hid hall
    have HEQ := Lib.hid hP.eq
    have hbw := hP.below
    have hrow := hP.row
    have hfew := Lib.hid hP.few
    have hfuel := Lib.hid hP.fuel
    have hwr := hP.below.size
    clear hN hok hcu hsh hxe hwm hxl hwb hbl4 hoke hRR hcell e0 e1 hl0 hll hall hR hP h
    generalize ((b.drop p).getD 0 0).toNat = X0 at *
    generalize ((b.drop p).getD 1 0).toNat = X1 at *
    generalize hWS : wsOf ((rdX (b.drop p)).drop 4) = ws at hcut hone HOK HRR HBL4
    generalize hNN : rdN (b.drop p) = N at *
    have HNN := Lib.hid hNN
    have HWS := Lib.hid hWS
    clear hNN hWS
    have hi1 : (p : Int) + 4 = ((p + 4 : Nat) : Int) := by omega
    have hi2 : 4 * (N : Int) = ((4 * N : Nat) : Int) := by omega
    rw [← hi1, ← hi2] at hcut
    clear hi1 hi2
    go_wp2_with fail
    ((with_reducible refine hget.mono ?_); rintro e w1 ⟨rfl, rfl⟩)
    clear hget
    go_wp2_with fail
    ((with_reducible refine hcut.mono ?_); rintro e w1 ⟨Ax, cx, rfl, rx, b1, low⟩)
    clear hcut
    have hrow0 := row_lt hrow
    have hrow := hrow.on b1
    have hs1 := b1.size
    have x0 := (b1.cell (p := ⟨bb, off + p, none⟩) hbb).trans x0
    have x1 := (b1.cell (p := ⟨bb, off + (p + 1), none⟩) hbb).trans x1
    have hbb1 : bb < w1.heap.size := by omega
    have hbw := hbw.trans (b1.mono hwr)
    have hone := fun W (Pb : Nat → Prop) (hb : Below w1.heap.size w1 W) (hn1 : ∀ k, W.heap.size ≤ k → Pb k) (hn2 : ∀ ad, Ax = some ad → Pb ad.block) => hone Ax (wB ws).length cx W Pb (rx.on hb) (by have := HBL4.out; omega) hn1 (fun ad e => ⟨hn2 ad e, Nat.lt_of_lt_of_le (low ad e).2 hb.size⟩)
    have hlow := Lib.hid low
    have hp0 : (0 : Int) ≤ (p : Int) := by omega
    have hp1 : (p : Int) < (n : Int) := by omega
    have hp2 : (0 : Int) ≤ (p : Int) + 1 := by omega
    have hp3 : (p : Int) + 1 < (n : Int) := by omega
    have hp4 : p + 1 < n := by omega
    have HROW0 := Lib.hid hrow0
    generalize hBL2 : (wB ws).length = bl at *
    have HBL2 := Lib.hid hBL2
    clear b1 rx low hrow0 hBL2
    go_upto_region 14 with (fail)
    clear g3
    by_cases hok1 : okOne X0 X1 ws = true
    rotate_left
    · have hok1 : okOne X0 X1 ws = false := by simpa using hok1
      have hcall : ∀ W, Below w1.heap.size w1 W → Calls Try.prog 45 #[.int .u8 (X0 : Int), .int .u8 (X1 : Int), .slice Ax bl cx] W (OneNo W) := fun W hb => (hone W (fun _ => True) hb (fun _ _ => trivial) (fun _ _ => trivial)).mono fun e w' hh => by
        rcases hh with ⟨h1, _⟩ | ⟨_, h2⟩
        · rw [hok1] at h1; cases h1
        · exact h2
      have hres : rdReps b = (12, []) := by
        have h3 := HOK.out
        rw [hok1] at h3
        by_cases hf : rdForm (b.drop p) = true
        · exact HEQ.out.trans (rdAcc_form HL0.out HSH.out hf)
        · have hf : rdForm (b.drop p) = false := by simpa using hf
          rw [hf] at h3
          exact HEQ.out.trans (rdAcc_bad HL0.out HSH.out hf (by simpa using h3.symm))
      have HRES := Lib.hid hres
      unfold OneNo at hcall
      clear hres hok1 hone hrow
      go_cut [7, 9] from 43 to 57 (fun okv _ wc => okv = .bool false ∧ Below w.heap.size w wc)
      case first =>
        have hbwh := Lib.hid hbw
        clear hbw
        have hwp : IntKind.i64.wrap ((p : Int) + 1) = (p : Int) + 1 := by rw [IntKind.wrap_i64]; omega
        have hwt : ((p : Int) + 1).toNat = p + 1 := by omega
        go_region_held3 (fun w' => w'.cell? ⟨bb, off + p, none⟩ = some (.int .u8 (X0 : Int)) ∧ w'.cell? ⟨bb, off + (p + 1), none⟩ = some (.int .u8 (X1 : Int)))
          (first
          | go_keep
          | (go_split_ands
             refine ⟨?_, ?_⟩
             · (rw [bc.cell (p := ⟨bb, off + p, none⟩) (by simp; omega)]; first | assumption | (rw [World.cell?_drew, World.cell?_alloc_lt _ _ _ (by simp; omega)]; assumption))
             · (rw [bc.cell (p := ⟨bb, off + (p + 1), none⟩) (by simp; omega)]; first | assumption | (rw [World.cell?_drew, World.cell?_alloc_lt _ _ _ (by simp; omega)]; assumption)))
          | (go_split_ands
             refine ⟨?_, ?_⟩
             · (refine Eq.trans (set10_cell (W := w3) (R := w1.heap.size) (by omega)) ?_; assumption)
             · (refine Eq.trans (set10_cell (W := w3) (R := w1.heap.size) (by omega)) ?_; assumption)))
          (first
            | (go_at_call 45; refine (hcall _ (by first | exact Below.refl _ _ | exact (drew_below _) | exact ((Below.refl _ _).alloc (Nat.le_refl _) _) | exact ((Below.refl _ _).alloc (Nat.le_refl _) _).drew)).mono ?_; rintro e w3 ⟨rfl, bc⟩; try (have B3 := (Blk.drewN (Blk.new w1 33 #[Value.int .i64 0, .int .u32 0, .int .u32 0, .slice none 0 0, .slice none 0 0, .slice none 0 0, .int .u64 0, .int .i64 0, .int .i64 0, .slice none 0 0]) 1).below bc (by simp); obtain ⟨y0, y1, y2, y3, y4, y5, y6, y7, y8, y9⟩ := blk10 B3; obtain ⟨z0, z1, z2, z3, z4, z5, z6, z7, z8, z9⟩ := frz10 B3)))
        · go_wp2_with fail
          go_meet
          case rel => exact ⟨rfl, hbwh.out.trans ((((drew_below w1).trans bc).alloc (by have := bc.size; simpa using this) _).mono hbwh.out.size)⟩
        · go_wp2_with fail
          go_meet
          case rel => exact ⟨rfl, hbwh.out.trans ((((((Below.refl w1.heap.size w1).alloc (Nat.le_refl _) _).drew.trans (bc.mono (by simp))).trans (set10_below (W := w3) (R := w1.heap.size) (Nat.le_refl _)))).mono hbwh.out.size)⟩
      case rest =>
        obtain ⟨rfl, hbw2⟩ := hcut
        clear hcall hbw x0 x1
        go_wp2_with fail
        go_ret2
        exact RdOut.no HRES.out hbw2
    have hrb : rdForm (b.drop p) = false ∧ rdBad (b.drop p) = false := by
      have h3 := HOK.out
      rw [hok1] at h3
      have h4 := h3.symm
      simp only [Bool.and_eq_true, Bool.not_eq_true'] at h4
      exact h4
    have hres := HEQ.out.trans (rdAcc_more HL0.out HSH.out hrb.1 hrb.2)
    have HRES := Lib.hid hres
    have hcall : ∀ W (Pb : Nat → Prop), Below w1.heap.size w1 W → (∀ k, W.heap.size ≤ k → Pb k) → (∀ ad, Ax = some ad → Pb ad.block) → Calls Try.prog 45 #[.int .u8 (X0 : Int), .int .u8 (X1 : Int), .slice Ax bl cx] W (fun e w' => ∃ (r : Rep) (At : Option Addr) (ct : Nat) (Aa : Option Addr) (ca : Nat) (An : Option Addr) (cn : Nat) (Ab : Option Addr) (cb : Nat), e = .returned (.tuple #[.agg #[.int .i64 r.kind, .int .u32 (r.src : Int), .int .u32 (r.about : Int), .slice At r.tups.length ct, .slice Aa r.abouts.length ca, .slice An r.nums.length cn, .int .u64 (r.rate : Int), .int .i64 r.ty, .int .i64 r.count, .slice Ab r.body.length cb], .bool true]) ∧ Hid (r = rdR (b.drop p)) ∧ IsR w' w'.heap.size ⟨r, At, ct, Aa, ca, An, cn, Ab, cb⟩ ∧ Rv.LiesP ⟨r, At, ct, Aa, ca, An, cn, Ab, cb⟩ Pb w'.heap.size ∧ Below W.heap.size W w') := fun W Pb hb hn1 hn2 => (hone W Pb hb hn1 hn2).mono fun e w' hh => by
      rcases hh with ⟨_, x, rfl, hxr, hxi, hxl, hbb⟩ | ⟨h1, _⟩
      · obtain ⟨r, At, ct, Aa, ca, An, cn, Ab, cb⟩ := x
        exact ⟨r, At, ct, Aa, ca, An, cn, Ab, cb, rfl, Lib.hid (hxr.trans HRR.out.symm), hxi, hxl, hbb⟩
      · rw [hok1] at h1; cases h1
    clear hres hrb hok1 hone
    go_cut [7, 9] from 43 to 57 (fun okv pv wc => okv = .bool true ∧ ∃ (x : Rv) (gr : Nat), pv = .pointer (some ⟨gr, 0, none⟩) ∧ Hid (x.r = rdR (b.drop p)) ∧ IsR wc wc.heap.size x ∧ x.Lies wr.heap.size wc.heap.size ∧ Blk wc gr 33 x.cells.toArray ∧ Below w1.heap.size w1 wc)
    case first =>
      have hbwh := Lib.hid hbw
      clear hbw hrow
      have hwp : IntKind.i64.wrap ((p : Int) + 1) = (p : Int) + 1 := by rw [IntKind.wrap_i64]; omega
      have hwt : ((p : Int) + 1).toNat = p + 1 := by omega
      have hk0 : ∀ W, Below w1.heap.size w1 W → W.cell? ⟨bb, off + p, none⟩ = some (.int .u8 (X0 : Int)) := fun W hb => (hb.cell (p := ⟨bb, off + p, none⟩) hbb1).trans x0
      have hk1 : ∀ W, Below w1.heap.size w1 W → W.cell? ⟨bb, off + (p + 1), none⟩ = some (.int .u8 (X1 : Int)) := fun W hb => (hb.cell (p := ⟨bb, off + (p + 1), none⟩) hbb1).trans x1
      go_region_held3 (fun w' => w'.cell? ⟨bb, off + p, none⟩ = some (.int .u8 (X0 : Int)) ∧ w'.cell? ⟨bb, off + (p + 1), none⟩ = some (.int .u8 (X1 : Int)))
        (first
          | ((conv in (World.setCell _ _ _) => skip)
             go_split_ands
             exact ⟨Eq.trans (set10_cell (W := w3) (R := w1.heap.size) (v0 := .int .i64 r.kind) (v1 := .int .u32 (r.src : Int)) (v2 := .int .u32 (r.about : Int)) (v3 := .slice At r.tups.length ct) (v4 := .slice Aa r.abouts.length ca) (v5 := .slice An r.nums.length cn) (v6 := .int .u64 (r.rate : Int)) (v7 := .int .i64 r.ty) (v8 := .int .i64 r.count) (v9 := .slice Ab r.body.length cb) (by omega)) (hk0 w3 bc1), Eq.trans (set10_cell (W := w3) (R := w1.heap.size) (v0 := .int .i64 r.kind) (v1 := .int .u32 (r.src : Int)) (v2 := .int .u32 (r.about : Int)) (v3 := .slice At r.tups.length ct) (v4 := .slice Aa r.abouts.length ca) (v5 := .slice An r.nums.length cn) (v6 := .int .u64 (r.rate : Int)) (v7 := .int .i64 r.ty) (v8 := .int .i64 r.count) (v9 := .slice Ab r.body.length cb) (by omega)) (hk1 w3 bc1)⟩)
          | ((conv in (World.alloc w3 _) => skip)
             go_split_ands
             have hsz := bc1.size
             exact ⟨(World.cell?_alloc_lt w3 _ ⟨bb, off + p, none⟩ (by simp; omega)).trans (hk0 w3 bc1), (World.cell?_alloc_lt w3 _ ⟨bb, off + (p + 1), none⟩ (by simp; omega)).trans (hk1 w3 bc1)⟩)
          | (go_split_ands
             exact ⟨hk0 w3 bc1, hk1 w3 bc1⟩)
          | go_keep)
        (first
          | (go_at_call 45; refine (hcall _ (fun k => wr.heap.size ≤ k ∧ k ≠ w1.heap.size) (((Below.refl w1.heap.size w1).alloc (Nat.le_refl _) (.cells #[Value.int .i64 0, .int .u32 0, .int .u32 0, .slice none 0 0, .slice none 0 0, .slice none 0 0, .int .u64 0, .int .i64 0, .int .i64 0, .slice none 0 0] 33)).drew) (fun k hk => by simp at hk; omega) (fun ad e => by have := hlow.out ad e; omega)).mono ?_; rintro e w3 ⟨r, At, ct, Aa, ca, An, cn, Ab, cb, rfl, hxr, hxi, hxl, bc⟩; have bc1 : Below w1.heap.size w1 w3 := (((Below.refl w1.heap.size w1).alloc (Nat.le_refl _) (.cells #[Value.int .i64 0, .int .u32 0, .int .u32 0, .slice none 0 0, .slice none 0 0, .slice none 0 0, .int .u64 0, .int .i64 0, .int .i64 0, .slice none 0 0] 33)).drew).trans (bc.mono (by simp)); have B3 := (Blk.drewN (Blk.new w1 33 #[Value.int .i64 0, .int .u32 0, .int .u32 0, .slice none 0 0, .slice none 0 0, .slice none 0 0, .int .u64 0, .int .i64 0, .int .i64 0, .slice none 0 0]) 1).below bc (by simp); obtain ⟨y0, y1, y2, y3, y4, y5, y6, y7, y8, y9⟩ := blk10 B3; obtain ⟨z0, z1, z2, z3, z4, z5, z6, z7, z8, z9⟩ := frz10 B3)
          | (go_at_call 45; refine (hcall _ (fun k => wr.heap.size ≤ k) (drew_below w1) (fun k hk => by simp at hk; omega) (fun ad e => (hlow.out ad e).1)).mono ?_; rintro e w3 ⟨r, At, ct, Aa, ca, An, cn, Ab, cb, rfl, hxr, hxi, hxl, bc⟩; have bc1 : Below w1.heap.size w1 w3 := (drew_below w1).trans bc))
      · have bA := (Below.refl w3.heap.size w3).alloc (Nat.le_refl _) (.cells #[.int .i64 r.kind, .int .u32 (r.src : Int), .int .u32 (r.about : Int), .slice At r.tups.length ct, .slice Aa r.abouts.length ca, .slice An r.nums.length cn, .int .u64 (r.rate : Int), .int .i64 r.ty, .int .i64 r.count, .slice Ab r.body.length cb] 33)
        have BN := Blk.new w3 33 #[.int .i64 r.kind, .int .u32 (r.src : Int), .int .u32 (r.about : Int), .slice At r.tups.length ct, .slice Aa r.abouts.length ca, .slice An r.nums.length cn, .int .u64 (r.rate : Int), .int .i64 r.ty, .int .i64 r.count, .slice Ab r.body.length cb]
        have hs3 := bc1.size
        have hXA := hxi.on bA
        have hLA : Rv.Lies ⟨r, At, ct, Aa, ca, An, cn, Ab, cb⟩ wr.heap.size (w3.alloc (.cells #[.int .i64 r.kind, .int .u32 (r.src : Int), .int .u32 (r.about : Int), .slice At r.tups.length ct, .slice Aa r.abouts.length ca, .slice An r.nums.length cn, .int .u64 (r.rate : Int), .int .i64 r.ty, .int .i64 r.count, .slice Ab r.body.length cb] 33)).heap.size := fun ad had => ⟨(hxl ad had).1, Nat.lt_of_lt_of_le (hxl ad had).2 bA.size⟩
        have bF := bc1.trans (bA.mono hs3)
        have HREL := Lib.hid (And.intro hXA (And.intro hLA (And.intro BN bF)))
        clear hk0 hk1 hXA hLA BN bF bA bc1 bc hxi hxl x0 x1
        go_wp2_with fail
        go_meet
        case rel => exact ⟨rfl, ⟨r, At, ct, Aa, ca, An, cn, Ab, cb⟩, w3.heap.size, rfl, hxr, HREL.out.1, HREL.out.2.1, HREL.out.2.2.1, HREL.out.2.2.2⟩
      · have hF := set10_blk (W := w3) (v0 := .int .i64 r.kind) (v1 := .int .u32 (r.src : Int)) (v2 := .int .u32 (r.about : Int)) (v3 := .slice At r.tups.length ct) (v4 := .slice Aa r.abouts.length ca) (v5 := .slice An r.nums.length cn) (v6 := .int .u64 (r.rate : Int)) (v7 := .int .i64 r.ty) (v8 := .int .i64 r.count) (v9 := .slice Ab r.body.length cb) B3
        have bF := bc1.trans (set10_below (W := w3) (R := w1.heap.size) (v0 := .int .i64 r.kind) (v1 := .int .u32 (r.src : Int)) (v2 := .int .u32 (r.about : Int)) (v3 := .slice At r.tups.length ct) (v4 := .slice Aa r.abouts.length ca) (v5 := .slice An r.nums.length cn) (v6 := .int .u64 (r.rate : Int)) (v7 := .int .i64 r.ty) (v8 := .int .i64 r.count) (v9 := .slice Ab r.body.length cb) (Nat.le_refl _))
        have hXA := hxi.but (but_set10 w3 w1.heap.size (.int .i64 r.kind) (.int .u32 (r.src : Int)) (.int .u32 (r.about : Int)) (.slice At r.tups.length ct) (.slice Aa r.abouts.length ca) (.slice An r.nums.length cn) (.int .u64 (r.rate : Int)) (.int .i64 r.ty) (.int .i64 r.count) (.slice Ab r.body.length cb)) (fun ad had e => (hxl ad had).1.2 e)
        have hS : (set10 w3 w1.heap.size (.int .i64 r.kind) (.int .u32 (r.src : Int)) (.int .u32 (r.about : Int)) (.slice At r.tups.length ct) (.slice Aa r.abouts.length ca) (.slice An r.nums.length cn) (.int .u64 (r.rate : Int)) (.int .i64 r.ty) (.int .i64 r.count) (.slice Ab r.body.length cb)).heap.size = w3.heap.size := set10_size
        have hLA : Rv.Lies ⟨r, At, ct, Aa, ca, An, cn, Ab, cb⟩ wr.heap.size (set10 w3 w1.heap.size (.int .i64 r.kind) (.int .u32 (r.src : Int)) (.int .u32 (r.about : Int)) (.slice At r.tups.length ct) (.slice Aa r.abouts.length ca) (.slice An r.nums.length cn) (.int .u64 (r.rate : Int)) (.int .i64 r.ty) (.int .i64 r.count) (.slice Ab r.body.length cb)).heap.size := fun ad had => ⟨(hxl ad had).1.1, by rw [hS]; exact (hxl ad had).2⟩
        have HREL := Lib.hid (And.intro hXA (And.intro hLA (And.intro hF bF)))
        clear hk0 hk1 hXA hLA hF bF bc1 bc hxi hxl hS x0 x1 B3 y0 y1 y2 y3 y4 y5 y6 y7 y8 y9 z0 z1 z2 z3 z4 z5 z6 z7 z8 z9
        go_wp2_with fail
        go_meet
        case rel => exact ⟨rfl, ⟨r, At, ct, Aa, ca, An, cn, Ab, cb⟩, w1.heap.size, rfl, hxr, HREL.out.1, HREL.out.2.1, HREL.out.2.2.1, HREL.out.2.2.2⟩
    case rest =>
      obtain ⟨rfl, x, gr, rfl, hxr, hX, hL, hB, bc⟩ := hcut
      obtain ⟨r, At, ct, Aa, ca, An, cn, Ab, cb⟩ := x
      have row3 := hrow.on bc
      have bw3 := hbw.trans (bc.mono hbw.size)
      have hB : Blk wc gr 33 #[.int .i64 r.kind, .int .u32 (r.src : Int), .int .u32 (r.about : Int), .slice At r.tups.length ct, .slice Aa r.abouts.length ca, .slice An r.nums.length cn, .int .u64 (r.rate : Int), .int .i64 r.ty, .int .i64 r.count, .slice Ab r.body.length cb] := hB
      obtain ⟨y0, y1, y2, y3, y4, y5, y6, y7, y8, y9⟩ := blk10 hB
      have hL4 : L.length ≤ 400 := by have := hfew.out; omega
      have hM : L.length + 1 ≤ maxLen := by simp only [maxLen]; omega
      have hBy : (L.length + 1) * 136 ≤ 140737488355328 := by omega
      have HP := Lib.hid (fun cs v' w' ha => rr_push (k0 := 0) bw3.size bw3 row3 hX hL HROW0.out cs v' w' ha)
      have HO := Lib.hid (show ∀ cs, (wc.alloc (.cells cs 33)).ownsRow w.heap.size 33 10 _ L.length (cellsR L) from fun cs => (row3.on ((Below.refl wc.heap.size wc).alloc (Nat.le_refl _) _)).own)
      have HZ := Lib.hid (show ∀ cs, w.heap.size ≤ (wc.alloc (.cells cs 33)).heap.size from fun cs => Nat.le_trans bw3.size ((Below.refl wc.heap.size wc).alloc (Nat.le_refl _) _).size)
      have HLI := Lib.hid (show RX (wc.alloc (.cells #[.int .i64 r.kind, .int .u32 (r.src : Int), .int .u32 (r.about : Int), .slice At r.tups.length ct, .slice Aa r.abouts.length ca, .slice An r.nums.length cn, .int .u64 (r.rate : Int), .int .i64 r.ty, .int .i64 r.count, .slice Ab r.body.length cb] 33)) (wc.alloc (.cells #[.int .i64 r.kind, .int .u32 (r.src : Int), .int .u32 (r.about : Int), .slice At r.tups.length ct, .slice Aa r.abouts.length ca, .slice An r.nums.length cn, .int .u64 (r.rate : Int), .int .i64 r.ty, .int .i64 r.count, .slice Ab r.body.length cb] 33)).heap.size (some ⟨wc.heap.size, 0, none⟩) 1 1 10 (cellsR [⟨r, At, ct, Aa, ca, An, cn, Ab, cb⟩]) from lit_rr ⟨r, At, ct, Aa, ca, An, cn, Ab, cb⟩ wc _ rfl)
      have HM := Lib.hid hM
      have HBY := Lib.hid hBy
      have hpx : p + (4 + 4 * N) ≤ n := HALL.out
      have HBLN : Hid (bl = 4 * N) := Lib.hid HBL4.out
      have hbl4 : 4 + bl ≤ n := by have := HBLN.out; omega
      clear hL4 hM hBy row3 hX hL bw3 hB hcall hbw hrow x0 x1 bc
      go_wp2_with (at_builtin; go_loud ((with_reducible refine wpList_appendX rfl (.tmp 59) (.tmp 61) 36 36 33 rfl rfl (.agg #[.int .i64 0, .int .u32 0, .int .u32 0, .slice none 0 0, .slice none 0 0, .slice none 0 0, .int .u64 0, .int .i64 0, .int .i64 0, .slice none 0 0]) 10 136 Try.underlying36 report_info rfl (by omega) w.heap.size _ L.length (cellsR L) (by with_unfolding_all rfl) (HO.out _) _ _ 1 1 (cellsR [⟨r, At, ct, Aa, ca, An, cn, Ab, cb⟩]) (by with_unfolding_all rfl) HLI.out (cellsR_one _) HM.out HBY.out (HZ.out _) ?_); intro v7 W7 ha7; have hp7 := HP.out _ v7 W7 ha7; clear ha7))
      obtain ⟨row7, bw7⟩ := hp7
      go_roundw
      case rel =>
        have hN := HBLN.out
        have hA := HALL.out
        have hF := hfew.out
        have hfu := hfuel.out
        refine ⟨p + (4 + bl), f, L ++ [⟨r, At, ct, Aa, ca, An, cn, Ab, cb⟩], by omega, by go_num, ⟨row7, ?_, by omega, by rw [List.length_append]; simp only [List.length_cons, List.length_nil]; omega, bw7⟩⟩
        rw [HRES.out, ← hxr.out, List.map_append, List.drop_drop, HNN.out, hN]
        rfl
      case measure => simp [intOf]; omega
end Go.Proofs.Ytnchgmemajmkjaa.RP
