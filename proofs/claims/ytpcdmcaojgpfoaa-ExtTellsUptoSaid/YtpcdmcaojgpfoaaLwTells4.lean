/- The walk of limelightlaw4.ExtTells. -/
import Derived.Test.YtpcdmcaojgpfoaaExK
import Derived.Test.YtpcdmcaojgpfoaaExN
import Derived.Test.YtpcdmcaojgpfoaaCTapeE
import Derived.Test.YtpcdmcaojgpfoaaCWithinE
import Derived.Laws.Closers25b
import Derived.Deep.CutRange
namespace Go.Proofs.Ytpcdmcaojgpfoaa.RP
open Go.RowKit
set_option linter.unusedVariables false
set_option linter.unusedSimpArgs false
set_option maxRecDepth 20000

theorem tape_new {w : World} {A : Option Addr} {n c : Nat} (h : RI w w.heap.size A n c) (hn : n ≤ 281474976710656) : TapeAt (w.alloc (.cells #[.slice A n c, .int .i64 0] 31)) w.heap.size :=
  ⟨A, n, c, 0, Blk.new _ _ _, Nat.zero_le _, hn, h.keep ((Below.refl _ w).alloc (Nat.le_refl _) _)⟩
/-- A row of elements stays while the tape is read. -/
theorem RE_moves {w w' : World} {g n c : Nat} {A : Option Addr} {E : List El} (h : RE w w.heap.size A n c E) (hT : TapeAt w g) (hm : Moves g w w') : RE w' w'.heap.size A n c E :=
  ⟨h.1, h.2.1, h.2.2.1.moves hT hm, fun hn => by
    obtain ⟨b, off, e, hlt, hc⟩ := h.2.2.2 hn
    have hlen := h.1
    obtain ⟨k1, k2⟩ := cellsE_get E 0 (by omega)
    have hne : b ≠ g := fun e' => by
      subst e'
      have c0 := hc _ _ k1
      have c1 := hc _ _ k2
      obtain ⟨A', n', c', k, hg, _⟩ := hT
      simp only [World.cell?, hg] at c0 c1
      match off with
      | 0 => simp at c0
      | 1 => simp at c1
      | o + 2 => simp at c0
    refine ⟨b, off, e, by have := hm.below.size; omega, fun j v hj => ?_⟩
    rw [← hc j v hj]
    exact World.cell?_of_block (hm.other b hlt hne)⟩
theorem own8_set {w : World} {base g c i n : Nat} {l : List UInt8} (h : Own8 w base (.slice (some ⟨g, 0, none⟩) n c) l) (hi : i < l.length) (x : UInt8) : Own8 (w.setCell ⟨g, i, none⟩ (.int .u8 (x.toNat : Int))) base (.slice (some ⟨g, 0, none⟩) n c) (l.set i x) := by
  rcases h.2 with ⟨hv, _⟩ | ⟨g', cap, cur, hv, hb, hg, hnc, hm, hs, ht⟩
  · cases hv
  · injection hv with h1 h2 h3
    injection h1 with h1
    injection h1 with h1 _ _
    subst h1 h2 h3
    refine ⟨by simp, .inr ⟨g, c, _, by simp, hb, Blk.set_ (w := w) (g := g) hg i (.int .u8 (x.toNat : Int)), by simpa using hnc, hm, by simpa using hs, ?_⟩⟩
    rw [Nat.mul_one] at ht ⊢
    rw [List.length_set, Array.toList_setIfInBounds, List.take_set, ht, List.map_set]
    rfl
theorem own8_some {w : World} {base : Nat} {v : Value} {l : List UInt8} (h : Own8 w base v l) (hl : 0 < l.length) : ∃ g c, v = .slice (some ⟨g, 0, none⟩) l.length c ∧ base ≤ g ∧ g < w.heap.size ∧ (∀ i, w.frozen? ⟨g, i, none⟩ = false) ∧ ∀ i, i < l.length → w.cell? ⟨g, i, none⟩ = some (.int .u8 ((l.getD i 0).toNat : Int)) := by
  obtain ⟨A, c, hv, hr⟩ := h.r8
  rcases h.2 with ⟨hv', hn⟩ | ⟨g, cap, cur, hv', hb, hg, hnc, hm, hs, ht⟩
  · omega
  · rw [hv'] at hv
    injection hv with h1 h2 h3
    refine ⟨g, cap, hv', hb, (Array.getElem?_eq_some_iff.1 hg).1, fun i => by simp [World.frozen?, hg], fun i hi => ?_⟩
    obtain ⟨b, off, e, _, hc⟩ := hr.2.2 hl
    rw [← h1] at e
    injection e with e
    injection e with e1 e2 _
    subst e1 e2
    have := hc i hi
    rwa [Nat.zero_add] at this
theorem re_take {w : World} {B n c : Nat} {A : Option Addr} {E : List El} (h : RE w B A n c E) (k : Nat) (hk : k ≤ n) : RE w B A k c (E.take k) := by
  have hl := h.1
  have hc := h.2.1
  refine ⟨by simp; omega, by omega, fun e he => h.2.2.1 e (List.mem_of_mem_take he), fun hp => ?_⟩
  obtain ⟨b, off, rfl, hb, hcell⟩ := h.2.2.2 (by omega)
  refine ⟨b, off, rfl, hb, fun j v hj => hcell j v ?_⟩
  have h1 : cellsE E = cellsE (E.take k) ++ cellsE (E.drop k) := by rw [← cellsE_append, List.take_append_drop]
  rw [h1, List.getElem?_append_left (List.getElem?_eq_some_iff.1 hj).1]
  exact hj
theorem run_cut_hiE (w : World) (A : Option Addr) (n c k : Nat) (hk : k ≤ c) :
    (Instr.slice 44 (.slice A n c) none (some (.int .i64 (k : Int))) none).run Try.prog w = .ok (.slice A k c) w := by
  have e : (if c = 0 then A else A.map (·.add 0)) = A := by
    split
    · rfl
    · cases A with
      | none => rfl
      | some a => simp [Addr.add]
  have hs : (Try.prog.elem 44) = 51 := by simp [Program.elem, Try.underlying44]
  have h3 := run_slice_h (P := Try.prog) w 44 A n c (by rw [hs]; exact Try.underlying44) .i64 (k : Nat) (by omega) (by omega)
  rw [hs] at h3
  obtain ⟨i0, hi0, hz0, hz1, hz2⟩ := info_parts elem_info
  rw [h3]
  simp [sizeOf, typeInfo, hi0, hz1, sliced, Result.andThen, e]
theorem xor_u8 (a b : Int) : ∃ y : UInt8, bits BinOp.xor .u8 a b = (y.toNat : Int) := by
  have h0 := bits_lo_u8 BinOp.xor a b
  have h1 := bits_hi_u8 BinOp.xor a b
  exact ⟨UInt8.ofNat (bits BinOp.xor .u8 a b).toNat, by rw [UInt8.toNat_ofNat']; omega⟩
set_option maxRecDepth 100000 in
set_option maxHeartbeats 8000000 in
theorem extTells_walk (A0 : Option Addr) (n0 c0 : Nat) (Ar : Option Addr) (nr cr : Nat) (Er : List El) (Ab : Option Addr) (nb cb : Nat) (lb : List UInt8) (id prof at' turn : Int) (w : World)
    (hR : RI w w.heap.size A0 n0 c0) (hn0 : n0 ≤ 281474976710656) (hEr : RE w w.heap.size Ar nr cr Er) (hrb : nr ≤ 1048576 ∧ ∀ x ∈ Er, x.d.length ≤ 1048576) (hB : R8 w w.heap.size Ab nb cb lb) (hnb : nb ≤ 1048576)
    (hid : I64 id) (hpw : (Lit.int .u16 prof).wf = true) (hat : I64 at') (htw : (Lit.int .u8 turn).wf = true) :
    Calls Try.prog 5 #[.slice A0 n0 c0, .slice Ar nr cr, .slice Ab nb cb, .int .i64 id, .int .u16 prof, .int .i64 at', .int .u8 turn] w (Yes w) := by
  obtain ⟨P, rfl, hP⟩ : ∃ P : Nat, prof = P ∧ P < 65536 := by
    have : 0 ≤ prof ∧ prof ≤ 65535 := by simpa [Lit.wf, IntKind.min, IntKind.max, IntKind.signed, IntKind.bits] using hpw
    exact ⟨prof.toNat, by omega, by omega⟩
  clear hpw
  have hT := tape_new hR hn0
  have b0 : Below w.heap.size w (w.alloc (.cells #[.slice A0 n0 c0, .int .i64 0] 31)) := (Below.refl _ w).alloc (Nat.le_refl _) _
  go_enter Try.func5, Try.ntmps5
  go_wp2_with fail
  refine (tape_elems w.heap.size false _ hT).mono ?_
  rintro e w1 ⟨A1, c1, E1, rfl, hE1, hIn1, hRE1, hm1⟩
  go_wp2_with fail
  refine (tape_elems w.heap.size true _ hm1.tape).mono ?_
  rintro e w2 ⟨A2, c2, E2, rfl, hE2, hIn2, hRE2, hm2⟩
  have hRE1 := RE_moves hRE1 hm1.tape hm2
  have b2 : Below w.heap.size w w2 := b0.trans (hm1.below.trans hm2.below)
  have hEr := hEr.on b2
  have hB := hB.on b2
  clear hT b0 hm1 hm2 hR
  go_upto_if 29 with (fail)
  go_cut [1] from 27 to 32 (fun s1 wc => ∃ (n : Nat) (E : List El), s1 = .slice Ar n cr ∧ n ≤ 12 ∧ RE w2 w2.heap.size Ar n cr E ∧ (∀ x ∈ E, x.d.length ≤ 1048576) ∧ wc = w2)
  case first =>
    by_cases ga : 12 < nr
    · have hcut : (Instr.slice 44 (.slice Ar nr cr) none (some (.int .i64 12)) none).run Try.prog w2 = .ok (.slice Ar 12 cr) w2 := run_cut_hiE w2 Ar nr cr 12 (by have := hEr.2.1; omega)
      have ga' : (12 : Int) < (nr : Int) := by omega
      go_wp2_with fail
      go_meet
      case rel => exact ⟨12, _, rfl, by omega, re_take hEr 12 (by omega), fun x hx => hrb.2 x (List.mem_of_mem_take hx), rfl⟩
    · have ga' : ¬ (12 : Int) < (nr : Int) := by omega
      go_wp2_with fail
      go_meet
      case rel => exact ⟨nr, Er, rfl, by omega, hEr, hrb.2, rfl⟩
  case rest =>
    obtain ⟨nq, Eq, rfl, hnq, hREq, hdq, hwc⟩ := hcut
    obtain rfl := hwc.symm
    clear hEr hrb
    have hCl := elemsB_len 4096 E2
    have hq1 := ref_elems_own 4096 A2 E2.length c2 E2 w2 (by omega) hRE2 (by omega) (fun e he => by have := (hIn2 e he).2.2.1; omega)
    obtain ⟨C, hC⟩ : ∃ C, elemsB 4096 E2 = C := ⟨_, rfl⟩
    unfold ElemsOwn at hq1
    rw [hC] at hq1 hCl
    clear hC
    generalize elemsErr 4096 E2 = K at hq1
    go_wp2_with fail
    refine hq1.mono ?_
    rintro e w3 ⟨v, rfl, hOC, b3⟩
    clear hq1
    obtain ⟨Av, cv, rfl, hRv0⟩ := hOC.r8
    clear hRv0
    have s1 := fun W hW => law4_same 48862 A1 E1.length c1 E1 (bits BinOp.and .i64 id 15) W (by omega) (hRE1.on hW) (by omega) (fun e he => by have := (hIn1 e he).2.2.1; omega)
    have s2 := fun W hW => law4_same 4096 A2 E2.length c2 E2 (bits BinOp.and .i64 id 255) W (by omega) (hRE2.on hW) (by omega) (fun e he => by have := (hIn2 e he).2.2.1; omega)
    have s3 := fun W hW => law4_same 48862 Ar nq cr Eq id W (by omega) (hREq.on hW) (by omega) (fun e he => by have := hdq e he; omega)
    have s4 := fun W hW => law4_same 4096 Ar nq cr Eq id W (by omega) (hREq.on hW) (by omega) (fun e he => by have := hdq e he; omega)
    have s5 := fun W hW => law4_same P A1 E1.length c1 E1 1 W hP (hRE1.on hW) (by omega) (fun e he => by have := (hIn1 e he).2.2.1; omega)
    have r1 := fun W hW => law4_reads 48862 Ab nb cb lb W (hB.on hW) (by omega)
    have r2 := fun W hW => law4_reads 4096 Ab nb cb lb W (hB.on hW) (by omega)
    have r3 := fun W hW => law4_reads P Ab nb cb lb W (hB.on hW) (by omega)
    clear hIn1 hIn2 hdq hRE1 hRE2 hREq hB
    go_upto_if 39 with (fail)
    go_cut [18] from 37 to 51 (fun s18 wc => ∃ C' : List UInt8, Own8 wc w2.heap.size s18 C' ∧ C'.length ≤ 2200 ∧ Below w2.heap.size w2 wc)
    case first =>
      clear s1 s2 s3 s4 s5 r1 r2 r3
      by_cases hc0 : 0 < C.length
      · obtain ⟨g3, c3, hve, hg3, hl3, hfz, hcell⟩ := own8_some hOC hc0
        injection hve with hA1 _ hA3
        subst hA1 hA3
        obtain ⟨r, hr0, hr1, _, hrw⟩ := within_ex at' 0 ((C.length : Int) - 1) hat (by omega) (by omega) (by omega)
        obtain ⟨i, rfl⟩ : ∃ i : Nat, r = i := ⟨r.toNat, by omega⟩
        have hi : i < C.length := by omega
        have x0 := hcell i hi
        have z0 := hfz i
        obtain ⟨y, hy⟩ := xor_u8 ((C.getD i 0).toNat : Int) turn
        have g1 : (0 : Int) < (C.length : Int) := by omega
        have g2 : (i : Int) < (C.length : Int) := by omega
        have hO4 := own8_set hOC hi y
        have b4 : Below w2.heap.size w2 (w3.setCell ⟨g3, i, none⟩ (.int .u8 (y.toNat : Int))) := b3.setCell (p := ⟨g3, i, none⟩) hg3 _
        have hl4 : (C.set i y).length ≤ 2200 := by rw [List.length_set]; exact hCl
        clear hcell hfz hOC hc0
        generalize (C.getD i 0).toNat = X at x0 hy
        go_wp2_with (go_at_call 11; refine (hrw _).mono ?_; rintro e w' ⟨rfl, hw⟩; obtain rfl := hw.symm)
        go_meet
        case rel => exact ⟨_, hO4, hl4, b4⟩
      · have g1 : ¬ (0 : Int) < (C.length : Int) := by omega
        go_wp2_with fail
        go_meet
        case rel => exact ⟨C, hOC, hCl, b3⟩
    case rest =>
      obtain ⟨C', hO', hl', bc⟩ := hcut
      obtain ⟨Av, cv, rfl, hRv⟩ := hO'.r8
      have r4 := fun W hW => law4_reads 4096 Av _ cv C' W (hRv.on hW) (by omega)
      clear hO' hRv hOC b3 hCl hl'
      have d0 := Below.refl wc.heap.size wc
      go_wp2_with fail
      refine (s1 _ (bc.trans (d0.mono bc.size))).mono ?_
      rintro e x0 ⟨rfl, b10⟩
      have d1 := d0.trans (b10.mono d0.size)
      clear s1 b10 d0
      go_wp2_with fail
      refine (s2 _ (bc.trans (d1.mono bc.size))).mono ?_
      rintro e x1 ⟨rfl, b11⟩
      have d2 := d1.trans (b11.mono d1.size)
      clear s2 b11 d1
      go_wp2_with fail
      refine (s3 _ (bc.trans (d2.mono bc.size))).mono ?_
      rintro e x2 ⟨rfl, b12⟩
      have d3 := d2.trans (b12.mono d2.size)
      clear s3 b12 d2
      go_wp2_with fail
      refine (s4 _ (bc.trans (d3.mono bc.size))).mono ?_
      rintro e x3 ⟨rfl, b13⟩
      have d4 := d3.trans (b13.mono d3.size)
      clear s4 b13 d3
      go_wp2_with fail
      refine (s5 _ (bc.trans (d4.mono bc.size))).mono ?_
      rintro e x4 ⟨rfl, b14⟩
      have d5 := d4.trans (b14.mono d4.size)
      clear s5 b14 d4
      go_wp2_with fail
      refine (r1 _ (bc.trans (d5.mono bc.size))).mono ?_
      rintro e x5 ⟨rfl, b15⟩
      have d6 := d5.trans (b15.mono d5.size)
      clear r1 b15 d5
      go_wp2_with fail
      refine (r2 _ (bc.trans (d6.mono bc.size))).mono ?_
      rintro e x6 ⟨rfl, b16⟩
      have d7 := d6.trans (b16.mono d6.size)
      clear r2 b16 d6
      go_wp2_with fail
      refine (r3 _ (bc.trans (d7.mono bc.size))).mono ?_
      rintro e x7 ⟨rfl, b17⟩
      have d8 := d7.trans (b17.mono d7.size)
      clear r3 b17 d7
      go_wp2_with fail
      refine (r4 _ d8).mono ?_
      rintro e x8 ⟨rfl, b18⟩
      have d9 := d8.trans (b18.mono d8.size)
      have hkn := known4 x8
      clear r4 b18 d8
      go_wp2_with fail
      refine hkn.mono ?_
      rintro e x9 ⟨rfl, b19⟩
      have dd := b2.trans ((bc.trans ((d9.trans (b19.mono d9.size)).mono bc.size)).mono b2.size)
      go_wp2_with fail
      go_ret
      exact ⟨by simp, dd⟩
end Go.Proofs.Ytpcdmcaojgpfoaa.RP
