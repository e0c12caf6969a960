/- The walk of limelightlaw4.ExtNumbers. -/
import Derived.Test.YtpcdmcaojgpfoaaExW
import Derived.Test.YtpcdmcaojgpfoaaLwTape4
import Derived.Test.YtpcdmcaojgpfoaaExR
import Derived.Lib.SmallJoins
namespace Go.Proofs.Ytpcdmcaojgpfoaa.RP
open Go.RowKit
set_option linter.unusedVariables false
set_option linter.unusedSimpArgs false
set_option maxRecDepth 20000

theorem prof_at (j : Nat) (hj : j < 4) : ∃ P : Nat, P < 65536 ∧ (#[Value.int .u16 48862, .int .u16 4096, .int .u16 0, .int .u16 1] : Array Value)[j]? = some (.int .u16 (P : Int)) := by
  match j, hj with
  | 0, _ => exact ⟨48862, by omega, rfl⟩
  | 1, _ => exact ⟨4096, by omega, rfl⟩
  | 2, _ => exact ⟨0, by omega, rfl⟩
  | 3, _ => exact ⟨1, by omega, rfl⟩
theorem int_at (j : Nat) (hj : j < 7) : ∃ x : Int, I64 x ∧ (#[.int .i64 (-1), .int .i64 0, .int .i64 1, .int .i64 14, .int .i64 15, .int .i64 255, .int .i64 256] : Array Value)[j]? = some (.int .i64 x) := by
  match j, hj with
  | 0, _ => exact ⟨(-1), by unfold I64; omega, rfl⟩
  | 1, _ => exact ⟨0, by unfold I64; omega, rfl⟩
  | 2, _ => exact ⟨1, by unfold I64; omega, rfl⟩
  | 3, _ => exact ⟨14, by unfold I64; omega, rfl⟩
  | 4, _ => exact ⟨15, by unfold I64; omega, rfl⟩
  | 5, _ => exact ⟨255, by unfold I64; omega, rfl⟩
  | 6, _ => exact ⟨256, by unfold I64; omega, rfl⟩
theorem len_at (j : Nat) (hj : j < 6) : ∃ n : Nat, n ≤ 256 ∧ (#[.int .i64 0, .int .i64 1, .int .i64 16, .int .i64 17, .int .i64 255, .int .i64 256] : Array Value)[j]? = some (.int .i64 (n : Int)) := by
  match j, hj with
  | 0, _ => exact ⟨0, by omega, rfl⟩
  | 1, _ => exact ⟨1, by omega, rfl⟩
  | 2, _ => exact ⟨16, by omega, rfl⟩
  | 3, _ => exact ⟨17, by omega, rfl⟩
  | 4, _ => exact ⟨255, by omega, rfl⟩
  | 5, _ => exact ⟨256, by omega, rfl⟩
set_option maxRecDepth 100000 in
set_option maxHeartbeats 8000000 in
theorem extNumbers_walk (z : World) : Calls Try.prog 4 #[] z (Yes z) := by
  go_enter Try.func4, Try.ntmps4
  go_wp2_with fail
  go_loopw [1, 2, 3, 4, 6, 7, 8, 9] (fun k _ _ _ _ _ _ _ wr => ∃ q : Nat, q ≤ 60 ∧ k = .int .i64 (q : Int) ∧ Below z.heap.size z wr) (fun k _ _ _ _ _ _ _ _ => 60 - (intOf k).toNat)
  case atStart => exact ⟨0, by omega, rfl, Below.refl _ _⟩
  case round =>
    obtain ⟨q, hq, rfl, b0⟩ := hrel
    by_cases hlt : q < 60
    · have g1 : (q : Int) < 60 := by omega
      go_wp2_with fail
      refine (law_tape4 q hq _).mono ?_
      rintro e w1 ⟨A0, c0, rfl, hRI, b1⟩
      have b1 := b0.trans (b1.mono b0.size)
      have hT := tape_laid hRI (by omega)
      have bt : Below w1.heap.size w1 (w1.alloc (.cells #[.slice A0 400 c0, .int .i64 0] 31)) := (Below.refl _ w1).alloc (Nat.le_refl _) _
      clear hRI b0
      go_wp2_with fail
      refine (tape_elems _ false _ hT).mono ?_
      rintro e w2 ⟨A1, c1, E1, rfl, hE1, hIn1, hRE1, hm1⟩
      go_wp2_with fail
      refine (tape_elems _ true _ hm1.tape).mono ?_
      rintro e w3 ⟨A2, c2, E2, rfl, hE2, hIn2, hRE2, hm2⟩
      have hRE1 := RE_kept hRE1 hm1.tape hm2
      have b3 := b1.trans ((bt.trans (hm1.below.trans hm2.below)).mono b1.size)
      clear hT bt hm1 hm2 b1
      go_wp2_with fail
      have hblk : Blk (w3.alloc (.cells #[.int .u16 48862, .int .u16 4096, .int .u16 0, .int .u16 1] 23)) w3.heap.size 23 #[.int .u16 48862, .int .u16 4096, .int .u16 0, .int .u16 1] := Blk.new _ _ _
      have bz : Below w3.heap.size w3 (w3.alloc (.cells #[.int .u16 48862, .int .u16 4096, .int .u16 0, .int .u16 1] 23)) := (Below.refl _ w3).alloc (Nat.le_refl _) _
      have hRE1 := hRE1.on bz
      have hRE2 := hRE2.on bz
      have b4 := b3.trans (bz.mono b3.size)
      clear bz b3
      revert hblk hRE1 hRE2 b4
      generalize w3.alloc (.cells #[.int .u16 48862, .int .u16 4096, .int .u16 0, .int .u16 1] 23) = W
      generalize w3.heap.size = L
      intro hblk hRE1 hRE2 b4
      have hLW := hblk.lt
      go_loopw [6, 32] (fun _ i wr => ∃ j : Nat, j ≤ 4 ∧ i = .int .i64 (j : Int) ∧ Below W.heap.size W wr) (fun _ i _ => 4 - (intOf i).toNat)
      case atStart => exact ⟨0, by omega, rfl, Below.refl _ _⟩
      case round =>
        obtain ⟨j, hj, rfl, b5⟩ := hrel
        by_cases hjl : j < 4
        · have g3 : decide ((j : Int) < 4) = true := by simp; omega
          have g4 : (j : Int) < 4 := by omega
          obtain ⟨P, hP, hpc⟩ := prof_at j hjl
          have x0 : wr.cell? ⟨L, j, none⟩ = some (.int .u16 (P : Int)) := by rw [(hblk.below b5 hLW).cell j]; exact hpc
          have hd1 : ∀ e ∈ E1, e.d.length ≤ 140737488351232 := fun e he => by have := (hIn1 e he).2.2.1; omega
          have hd2 : ∀ e ∈ E2, e.d.length ≤ 140737488351232 := fun e he => by have := (hIn2 e he).2.2.1; omega
          have s1 := fun W' hW => law4_same P A1 E1.length c1 E1 ((q : Int) % 15) W' hP (hRE1.on hW) (by omega) hd1
          have s2 := fun W' hW => law4_same P A2 E2.length c2 E2 (q : Int) W' hP (hRE2.on hW) (by omega) hd2
          have hd3 := Lib.hid (And.intro hd1 hd2)
          clear hd1 hd2 hpc
          go_wp2_with fail
          refine (s1 _ b5).mono ?_
          rintro e x1 ⟨rfl, c5⟩
          have b6 := b5.trans (c5.mono b5.size)
          clear s1 c5 x0
          go_wp2_with fail
          refine (s2 _ b6).mono ?_
          rintro e x2 ⟨rfl, c5⟩
          have b7 := b6.trans (c5.mono b6.size)
          clear s2 c5 b6
          have oe := OwnE_empty x2 x2.heap.size (Nat.le_refl _)
          have bx : Below W.heap.size W (x2.alloc (.cells #[] 51)) := b7.alloc b7.size _
          have ra := hRE1.on bx
          have hb1 := Lib.hid (show ([] : List El).length + E1.length ≤ 1000 by simp; omega)
          have hb2 := Lib.hid (show ([] ++ E1 : List El).length + E2.length ≤ 1000 by simp; omega)
          go_wp2_with (first
            | (at_builtin; ((with_reducible refine wpList_appendE (by with_unfolding_all rfl) (.tmp 51) (.tmp 52) rfl x2.heap.size (.slice (some ⟨x2.heap.size, 0, none⟩) 0 0) [] (by with_unfolding_all rfl) oe A1 E1.length c1 E1 (by with_unfolding_all rfl) ra hb1.out (by simp) ?_); intro v8 w8 ha8; obtain ⟨o8, d8⟩ := ha8; have hz8 : x2.heap.size ≤ w8.heap.size := Nat.le_trans (by simp) d8.size; have bx8 : Below W.heap.size W w8 := bx.trans (d8.mono b7.size); have rb := hRE2.on bx8; clear oe ra))
            | (at_builtin; ((with_reducible refine wpList_appendE (by with_unfolding_all rfl) (.tmp 53) (.tmp 54) rfl x2.heap.size v8 ([] ++ E1) (by with_unfolding_all rfl) o8 A2 E2.length c2 E2 (by with_unfolding_all rfl) rb hb2.out hz8 ?_); intro v9 w9 ha9; obtain ⟨o9, d9⟩ := ha9; have bx9 : Below W.heap.size W w9 := bx8.trans (d9.mono b7.size); obtain ⟨Ax, cx, rfl, hRx⟩ := o9.re (fun e he => ((List.mem_append.1 he).elim (fun he => (hRE1.on bx9).2.2.1 e (by simpa using he)) (fun he => (hRE2.on bx9).2.2.1 e he))))))
          have hnl : ([] ++ E1 ++ E2 : List El).length = E1.length + E2.length := by simp
          rw [hnl] at hRx
          have s3 := law4_same P Ax _ cx _ 3 w9 hP hRx (by omega) (fun e he => ((List.mem_append.1 he).elim (fun he => hd3.out.1 e (by simpa using he)) (fun he => hd3.out.2 e he)))
          clear o8 d8 hz8 bx8 rb o9 d9 hRx bx hnl hb1 hb2 hd3
          refine s3.mono ?_
          rintro e x3 ⟨rfl, c9⟩
          have b9 := bx9.trans (c9.mono bx9.size)
          clear s3 c9 bx9 b5 b7
          go_wp2_with fail
          go_roundw
          case rel => exact ⟨j + 1, by omega, by go_num, b9⟩
          case measure => simp [intOf]; omega
        · have g3 : decide ((j : Int) < 4) = false := by simp; omega
          have q1 := fun W' hW => ref_elems 4096 A2 E2.length c2 E2 W' (by omega) (hRE2.on hW) (by omega) (fun e he => by have := (hIn2 e he).2.2.1; omega)
          have hCl := elemsB_len 4096 E2
          obtain ⟨C, hC⟩ : ∃ C, elemsB 4096 E2 = C := ⟨_, rfl⟩
          unfold ElemsRet at q1
          rw [hC] at q1 hCl
          generalize elemsErr 4096 E2 = K at q1
          clear hC
          go_wp2_with fail
          refine (q1 _ b5).mono ?_
          rintro e w6 ⟨Av, cv, rfl, hRC, c6⟩
          have b6 := b4.trans ((b5.trans (c6.mono b5.size)).mono b4.size)
          clear q1 c6 b5 b4 hblk hRE1 hRE2 hIn1 hIn2 hLW
          go_wp2_with fail
          go_loopw [9] (fun i wr => ∃ y : Nat, y ≤ C.length ∧ i = .int .i64 (y : Int) ∧ Below w6.heap.size w6 wr) (fun i _ => C.length - (intOf i).toNat)
          case atStart => exact ⟨0, by omega, rfl, Below.refl _ _⟩
          case round =>
            obtain ⟨y, hy, rfl, b7⟩ := hrel
            by_cases hyl : y < C.length
            · have g5 : (y : Int) < (C.length : Int) := by omega
              have hcc := hRC.2.1
              have f1 := fun W' => run_to W' Av C.length cv y (by omega)
              have f2 := fun W' => run_from W' Av C.length cv y (by omega) hcc
              have r1 := fun W' hW => law4_reads 4096 Av y cv (C.take y) W' ((hRC.on hW).take_ y (by omega)) (by omega)
              have hct := fun W' hW => R8.cut (hRC.on (w' := W') hW) y C.length (by omega) (Nat.le_refl _)
              have r2 := fun W' hW => law4_reads 48862 (cutA Av cv y) (C.length - y) (cv - y) _ W' (hct W' hW) (by omega)
              clear hct hcc
              go_wp2_with fail
              refine (r1 _ b7).mono ?_
              rintro e x1 ⟨rfl, c7⟩
              have b8 := b7.trans (c7.mono b7.size)
              clear r1 c7 b7
              go_wp2_with fail
              refine (r2 _ b8).mono ?_
              rintro e x2 ⟨rfl, c7⟩
              have b9 := b8.trans (c7.mono b8.size)
              clear r2 c7 b8 f1 f2
              go_wp2_with fail
              go_roundw
              case rel => exact ⟨y + 1, by omega, by go_num, b9⟩
              case measure => simp [intOf]; omega
            · have g5 : ¬ (y : Int) < (C.length : Int) := by omega
              have b8 := b6.trans (b7.mono b6.size)
              clear b7 b6 hRC
              go_wp2_with fail
              go_roundw
              case rel => exact ⟨q + 1, by omega, by go_num, b8⟩
              case measure => simp [intOf]; omega
    · have g1 : ¬ (q : Int) < 60 := by omega
      go_wp2_with fail
      have hblk : Blk (wr.alloc (.cells #[.int .i64 (-1), .int .i64 0, .int .i64 1, .int .i64 14, .int .i64 15, .int .i64 255, .int .i64 256] 3)) wr.heap.size 3 #[.int .i64 (-1), .int .i64 0, .int .i64 1, .int .i64 14, .int .i64 15, .int .i64 255, .int .i64 256] := Blk.new _ _ _
      have b1 : Below z.heap.size z (wr.alloc (.cells #[.int .i64 (-1), .int .i64 0, .int .i64 1, .int .i64 14, .int .i64 15, .int .i64 255, .int .i64 256] 3)) := b0.alloc b0.size _
      clear b0 g1
      revert hblk b1
      generalize wr.alloc (.cells #[.int .i64 (-1), .int .i64 0, .int .i64 1, .int .i64 14, .int .i64 15, .int .i64 255, .int .i64 256] 3) = W
      generalize wr.heap.size = L
      intro hblk b1
      have hLW := hblk.lt
      go_loopw [11, 13, 14, 85, 89, 90, 91] (fun _ _ _ i _ _ _ wr => ∃ j : Nat, j ≤ 7 ∧ i = .int .i64 (j : Int) ∧ Below W.heap.size W wr) (fun _ _ _ i _ _ _ _ => 7 - (intOf i).toNat)
      case atStart => exact ⟨0, by omega, rfl, Below.refl _ _⟩
      case round =>
        obtain ⟨j, hj, rfl, b2⟩ := hrel
        by_cases hjl : j < 7
        · have g3 : decide ((j : Int) < 7) = true := by simp; omega
          have g4 : (j : Int) < 7 := by omega
          obtain ⟨x, hx64, hpc⟩ := int_at j hjl
          have x0 : wr.cell? ⟨L, j, none⟩ = some (.int .i64 x) := by rw [(hblk.below b2 hLW).cell j]; exact hpc
          clear hpc
          go_wp2_with fail
          have hblk6 : Blk (wr.alloc (.cells #[.int .i64 0, .int .i64 1, .int .i64 16, .int .i64 17, .int .i64 255, .int .i64 256] 3)) wr.heap.size 3 #[.int .i64 0, .int .i64 1, .int .i64 16, .int .i64 17, .int .i64 255, .int .i64 256] := Blk.new _ _ _
          have b3 : Below W.heap.size W (wr.alloc (.cells #[.int .i64 0, .int .i64 1, .int .i64 16, .int .i64 17, .int .i64 255, .int .i64 256] 3)) := b2.alloc b2.size _
          clear x0 b2
          revert hblk6 b3
          generalize wr.alloc (.cells #[.int .i64 0, .int .i64 1, .int .i64 16, .int .i64 17, .int .i64 255, .int .i64 256] 3) = V
          generalize wr.heap.size = M
          intro hblk6 b3
          have hMV := hblk6.lt
          go_loopw [13, 14, 91] (fun _ _ i wr => ∃ k : Nat, k ≤ 6 ∧ i = .int .i64 (k : Int) ∧ Below V.heap.size V wr) (fun _ _ i _ => 6 - (intOf i).toNat)
          case atStart => exact ⟨0, by omega, rfl, Below.refl _ _⟩
          case round =>
            obtain ⟨k, hk, rfl, b4⟩ := hrel
            by_cases hkl : k < 6
            · have g5 : decide ((k : Int) < 6) = true := by simp; omega
              have g6 : (k : Int) < 6 := by omega
              obtain ⟨n, hn, hpc⟩ := len_at k hkl
              have x0 : wr.cell? ⟨M, k, none⟩ = some (.int .i64 (n : Int)) := by rw [(hblk6.below b4 hMV).cell k]; exact hpc
              have hmk := fun W' => run_make8 n (by omega) W'
              have hzb : Blk (wr.alloc (.cells (zl n).toArray 5)) wr.heap.size 5 (zl n).toArray := Blk.new _ _ _
              have hzr : R8 (wr.alloc (.cells (zl n).toArray 5)) (wr.alloc (.cells (zl n).toArray 5)).heap.size (some ⟨wr.heap.size, 0, none⟩) (List.replicate n (0 : UInt8)).length n (List.replicate n 0) := hzb.r8 (l := List.replicate n 0) rfl (by simp)
              have bz : Below V.heap.size V (wr.alloc (.cells (zl n).toArray 5)) := b4.alloc b4.size _
              have hsz : (wr.alloc (.cells (zl n).toArray 5)).heap.size = wr.heap.size + 1 := by simp
              have hE := re_one _ x (some ⟨wr.heap.size, 0, none⟩) n (List.replicate n 0) hx64 hzr
              rw [hsz, List.length_replicate] at hE
              have be := bz.alloc bz.size (.cells #[.int .i64 x, .slice (some ⟨wr.heap.size, 0, none⟩) n n] 51)
              have hd : ∀ e ∈ [(⟨x, some ⟨wr.heap.size, 0, none⟩, n, List.replicate n 0⟩ : El)], e.d.length ≤ 140737488351232 := fun e he => by rw [List.mem_singleton.1 he]; simp; omega
              have s1 := law4_same 48862 _ 1 1 _ x _ (by omega) hE (by omega) hd
              have s2 := fun W' hW => law4_same 4096 _ 1 1 _ x W' (by omega) (hE.on hW) (by omega) hd
              clear hpc hzb hzr bz hsz hE hd b4
              go_wp2_with fail
              clear x0 hmk
              refine s1.mono ?_
              rintro e x1 ⟨rfl, c5⟩
              have b5 := be.trans (c5.mono be.size)
              go_wp2_with fail
              refine (s2 _ c5).mono ?_
              rintro e x2 ⟨rfl, c6⟩
              have b6 := b5.trans (c6.mono b5.size)
              clear s1 s2 c5 c6 b5 be
              go_wp2_with fail
              go_roundw
              case rel => exact ⟨k + 1, by omega, by go_num, b6⟩
              case measure => simp [intOf]; omega
            · have g5 : decide ((k : Int) < 6) = false := by simp; omega
              have b5 := b3.trans (b4.mono b3.size)
              clear b3 b4 hblk6
              go_wp2_with fail
              go_roundw
              case rel => exact ⟨j + 1, by omega, by go_num, b5⟩
              case measure => simp [intOf]; omega
        · have g3 : decide ((j : Int) < 7) = false := by simp; omega
          have b3 := b1.trans (b2.mono b1.size)
          clear b1 b2 hblk
          go_wp2_with fail
          go_loopw [15, 16] (fun v i wr => ∃ (y : Nat) (E : List El), y ≤ 10 ∧ i = .int .i64 (y : Int) ∧ E.length = y ∧ RowE z wr v E ∧ (∀ e ∈ E, e.d.length ≤ 10)) (fun _ i _ => 10 - (intOf i).toNat)
          case atStart => exact ⟨0, [], by omega, rfl, rfl, RowE.nil b3, by simp⟩
          case round =>
            obtain ⟨y, E, hy, rfl, hEy, hrow, hdl⟩ := hrel
            subst hEy
            obtain ⟨AE, cE, hvE, hRE⟩ := hrow.own.re hrow.els
            subst hvE
            by_cases hyl : E.length < 10
            · have g5 : (E.length : Int) < 10 := by omega
              have s1 := fun W' hW => law4_same 48862 AE E.length cE E 1 W' (by omega) (hRE.on hW) (by omega) (fun e he => by have := hdl e he; omega)
              have s2 := fun W' hW => law4_same 4096 AE E.length cE E 1 W' (by omega) (hRE.on hW) (by omega) (fun e he => by have := hdl e he; omega)
              clear hRE b3
              go_wp2_with fail
              refine (s1 _ (Below.refl _ _)).mono ?_
              rintro e x1 ⟨rfl, c5⟩
              go_wp2_with fail
              refine (s2 _ c5).mono ?_
              rintro e x2 ⟨rfl, c6⟩
              have hrow2 := hrow.on (c5.trans (c6.mono c5.size))
              clear s1 s2 c5 c6 hrow
              have kc := Go.Joins.run_convert_bytes_const_at (P := Try.prog) x2 26 5 #[.int .u8 120] 1 1 x2.heap.size rfl Try.underlying26 Try.underlying5
              have hr1 := lit_r8 [120] #[.int .u8 120] 1 (1, 2) rfl rfl x2
              have bz : Below x2.heap.size x2 (x2.alloc (.cells #[.int .u8 120] 5 (1, 2))) := (Below.refl _ x2).alloc (Nat.le_refl _) _
              have hrow3 := hrow2.on bz
              have hxf : ∀ ad, some (⟨x2.heap.size, 0, none⟩ : Addr) = some ad → Value.ownBlock (.slice AE E.length cE) ≠ some ad.block ∧ ad.block < (x2.alloc (.cells #[.int .u8 120] 5 (1, 2))).heap.size ∧ z.heap.size ≤ ad.block := fun ad e => by
                injection e with e
                subst e
                exact ⟨fun e' => by have := hrow2.blk _ e'; simp at this, by simp, hrow2.below.size⟩
              have hz3 := hrow3.below.size
              have hsz : (x2.alloc (.cells #[.int .u8 120] 5 (1, 2))).heap.size = x2.heap.size + 1 := by simp
              have hone := one_elem (x2.alloc (.cells #[.int .u8 120] 5 (1, 2))) ⟨1, some ⟨x2.heap.size, 0, none⟩, 1, [120]⟩
              rw [hsz] at hone
              have hone := Lib.hid hone
              have hxf := Lib.hid hxf
              have hdl := Lib.hid hdl
              clear hsz
              go_wp2_with (at_builtin; ((with_reducible refine wpList_appendG rfl (.tmp 124) (.tmp 128) 44 44 51 rfl rfl _ 2 32 Try.underlying44 elem_info rfl (by decide) z.heap.size (.slice AE E.length cE) E.length (cellsE E) (by with_unfolding_all rfl) (by with_unfolding_all exact OwnE.alloc hrow3.own _) _ 1 1 (cellsE [⟨1, some ⟨x2.heap.size, 0, none⟩, 1, [120]⟩]) rfl rfl (by with_unfolding_all exact hone.out) (one_elem_cells _) (by simp only [maxLen]; omega) (by omega) (by simp at hz3 ⊢; omega) ?_); intro v7 w7 ha7))
              have hrow7 := hrow3.app (x := ⟨1, some ⟨x2.heap.size, 0, none⟩, 1, [120]⟩) ⟨by show I64 1; unfold I64; omega, hr1⟩ hxf.out ha7
              clear kc hr1 bz hrow2 hrow3 hxf hz3 ha7 hone
              go_roundw
              case rel =>
                refine ⟨E.length + 1, E ++ [⟨1, some ⟨x2.heap.size, 0, none⟩, 1, [120]⟩], by omega, by go_num, by simp, hrow7, fun e he => ?_⟩
                rcases List.mem_append.1 he with he | he
                · exact hdl.out e he
                · rw [List.mem_singleton.1 he]; simp
              case measure => simp [intOf]; omega
            · have g5 : ¬ (E.length : Int) < 10 := by omega
              have b4 := hrow.below
              clear hrow hRE hdl b3
              go_wp2_with fail
              go_loopw [17] (fun i wr => ∃ f : Nat, f ≤ 256 ∧ i = .int .i64 (f : Int) ∧ Below z.heap.size z wr) (fun i _ => 256 - (intOf i).toNat)
              case atStart => exact ⟨0, by omega, rfl, b4⟩
              case round =>
                obtain ⟨f, hf, rfl, b5⟩ := hrel
                by_cases hfl : f < 256
                · have g6 : (f : Int) < 256 := by omega
                  have g7 : (f : Int) % 256 = f := by omega
                  obtain ⟨y, rfl⟩ : ∃ y : UInt8, f = y.toNat := ⟨UInt8.ofNat f, by simp; omega⟩
                  have hr := lit_r8 [y, 97, 98, 0] #[.int .u8 (y.toNat : Int), .int .u8 97, .int .u8 98, .int .u8 0] 4 (0, 0) rfl rfl wr
                  have b6 : Below z.heap.size z (wr.alloc (.cells #[.int .u8 (y.toNat : Int), .int .u8 97, .int .u8 98, .int .u8 0] 5)) := b5.alloc b5.size _
                  have r1 := law4_reads 48862 _ 4 4 [y, 97, 98, 0] _ hr (by omega)
                  clear hr b5 b4
                  go_wp2_with fail
                  refine r1.mono ?_
                  rintro e x1 ⟨rfl, c5⟩
                  have b7 := b6.trans (c5.mono b6.size)
                  have hr := lit_r8 [y, 2, 97, 98] #[.int .u8 (y.toNat : Int), .int .u8 2, .int .u8 97, .int .u8 98] 4 (0, 0) rfl rfl x1
                  have b8 : Below z.heap.size z (x1.alloc (.cells #[.int .u8 (y.toNat : Int), .int .u8 2, .int .u8 97, .int .u8 98] 5)) := b7.alloc b7.size _
                  have r2 := law4_reads 4096 _ 4 4 [y, 2, 97, 98] _ hr (by omega)
                  clear hr r1 c5 b6 b7
                  go_wp2_with fail
                  refine r2.mono ?_
                  rintro e x2 ⟨rfl, c5⟩
                  have b7 := b8.trans (c5.mono b8.size)
                  have hr := lit_r8 [17, 97, y, y] #[.int .u8 17, .int .u8 97, .int .u8 (y.toNat : Int), .int .u8 (y.toNat : Int)] 4 (0, 0) rfl rfl x2
                  have b9 : Below z.heap.size z (x2.alloc (.cells #[.int .u8 17, .int .u8 97, .int .u8 (y.toNat : Int), .int .u8 (y.toNat : Int)] 5)) := b7.alloc b7.size _
                  have r3 := law4_reads 48862 _ 4 4 [17, 97, y, y] _ hr (by omega)
                  clear hr r2 c5 b8 b7
                  go_wp2_with fail
                  refine r3.mono ?_
                  rintro e x3 ⟨rfl, c5⟩
                  have b10 := b9.trans (c5.mono b9.size)
                  clear r3 c5 b9
                  go_wp2_with fail
                  go_roundw
                  case rel => exact ⟨y.toNat + 1, by omega, by go_num, b10⟩
                  case measure => simp [intOf]; omega
                · have g6 : ¬ (f : Int) < 256 := by omega
                  have hr := lit_r8 [0, 0, 7] #[.int .u8 0, .int .u8 0, .int .u8 7] 3 (0, 0) rfl rfl wr
                  have b6 : Below z.heap.size z (wr.alloc (.cells #[.int .u8 0, .int .u8 0, .int .u8 7] 5)) := b5.alloc b5.size _
                  have r1 := law4_reads 4096 _ 3 3 [0, 0, 7] _ hr (by omega)
                  clear hr b5 b4
                  go_wp2_with fail
                  refine r1.mono ?_
                  rintro e x1 ⟨rfl, c5⟩
                  have b7 := b6.trans (c5.mono b6.size)
                  have hkn := known4 x1
                  clear r1 c5 b6
                  go_wp2_with fail
                  refine hkn.mono ?_
                  rintro e x2 ⟨rfl, c6⟩
                  go_wp2_with fail
                  go_ret
                  exact ⟨by simp, b7.trans (c6.mono b7.size)⟩
end Go.Proofs.Ytpcdmcaojgpfoaa.RP
