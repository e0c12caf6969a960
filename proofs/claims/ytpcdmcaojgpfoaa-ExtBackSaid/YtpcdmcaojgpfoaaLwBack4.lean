/- The walk of limelightlaw4.ExtBack. -/
import Derived.Test.YtpcdmcaojgpfoaaLwRids
import Derived.Test.YtpcdmcaojgpfoaaExM
import Derived.Test.YtpcdmcaojgpfoaaExW
import Derived.BigQuiet
import Derived.Deep.QuietTactic
import Derived.Lib.SmallJoins
namespace Go.Proofs.Ytpcdmcaojgpfoaa.RP
open Go.RowKit
set_option linter.unusedVariables false
set_option linter.unusedSimpArgs false
set_option maxRecDepth 20000

theorem elemsB_mod (prof : Nat) (E : List El) : (elemsB prof E).length % 4 = 0 := by
  unfold elemsB
  split
  · unfold padL
    rw [List.length_append, List.length_replicate]
    exact pad_eq _ 4 (by omega) (by omega)
  · rfl
def Fst (E : List El) (id : Int) (k f : Nat) : Prop := (∀ hf : f < E.length, E[f].id = id) ∧ ∀ q (hq : q < E.length), q < k → q < f → E[q].id ≠ id
theorem Fst.start {E : List El} {i : Nat} (hi : i < E.length) : Fst E E[i].id 0 i := ⟨fun _ => rfl, fun q _ h _ => by omega⟩
theorem Fst.hit {E : List El} {id : Int} {k f : Nat} (h : Fst E id k f) (hk : k < E.length) (e : E[k].id = id) : Fst E id (k + 1) (min f k) := by
  refine ⟨fun hf => ?_, fun q hq h1 h2 => h.2 q hq (by omega) (by omega)⟩
  by_cases hm : f ≤ k
  · have hmm : min f k = f := by omega
    simp only [hmm] at hf ⊢
    exact h.1 hf
  · have hmm : min f k = k := by omega
    simp only [hmm] at hf ⊢
    exact e
theorem Fst.miss {E : List El} {id : Int} {k f : Nat} (h : Fst E id k f) (hk : k < E.length) (e : E[k].id ≠ id) : Fst E id (k + 1) f := by
  refine ⟨h.1, fun q hq h1 h2 => ?_⟩
  by_cases hqk : q = k
  · subst hqk; exact e
  · exact h.2 q hq (by omega) h2
theorem Fst.done {E : List El} {id : Int} {k f : Nat} (h : Fst E id k f) (hf : f < E.length) (hk : f ≤ k) : fdB (E.map El.dat) id = E[f].d ∧ fdK (E.map El.dat) id = true :=
  fd_at hf (fun e he => by
    obtain ⟨q, hq, rfl⟩ := List.mem_iff_getElem.1 he
    rw [List.length_take] at hq
    rw [List.getElem_take]
    exact h.2 q (by omega) (by omega) (by omega)) (h.1 hf)
theorem run_cutE (w : World) (A : Option Addr) (n c k : Nat) (hk : k ≤ c) :
    (Instr.slice 44 (.slice A n c) none (some (.int .i64 (k : Int))) none).run Try.prog w = .ok (.slice A k c) w := by
  have e : (if c = 0 then A else A.map (·.add 0)) = A := by
    split
    · rfl
    · cases A with
      | none => rfl
      | some a => simp [Addr.add]
  have hs : (Try.prog.elem 44) = 51 := by simp [Program.elem, Try.underlying44]
  have h3 := run_slice_h (P := Try.prog) w 44 A n c (by rw [hs]; exact Try.underlying44) .i64 (k : Nat) (by omega) (by omega)
  rw [hs] at h3
  obtain ⟨i0, hi0, hz0, hz1, hz2⟩ := info_parts elem_info
  rw [h3]
  simp [sizeOf, typeInfo, hi0, hz1, sliced, Result.andThen, e]
theorem OwnE_one (w : World) (base : Nat) (hb : base ≤ w.heap.size) (x : El) : OwnE (w.alloc (.cells #[.int .i64 x.id, .slice x.A x.d.length x.c] 51)) base (.slice (some ⟨w.heap.size, 0, none⟩) 1 1) [x] := by
  exact ⟨rfl, .inr ⟨w.heap.size, 1, #[.int .i64 x.id, .slice x.A x.d.length x.c], rfl, hb, by first | exact Blk.new _ _ _ | exact (Blk.new _ _ _).1 | simp, by simp, by simp [maxLen], rfl, rfl⟩⟩
theorem name_in {E : List El} (hE3 : E.length ≤ 3) (hg : ∀ e ∈ E, badE false e = false) (A : Option Addr) (c : Nat) (Y : ByteArray) (hY : Y.size ≤ 20) :
    elemsErr 4096 ([⟨1, A, c, Y.data.toList⟩] ++ E) = 0 ∧ ∃ (S0 : ByteArray) (K0 : Bool), ridS 4096 (elemsB 4096 ([⟨1, A, c, Y.data.toList⟩] ++ E)) = S0 ∧ ridK 4096 (elemsB 4096 ([⟨1, A, c, Y.data.toList⟩] ++ E)) = K0 ∧ (K0 = true → S0 = Y) := by
  have hD : Y.data.toList.length = Y.size := rfl
  have hgood : ∀ e ∈ (⟨1, A, c, Y.data.toList⟩ : El) :: E, badE (isOne 4096) e = false := fun e he => by
    rcases List.mem_cons.1 he with rfl | he
    · have h255 : Y.data.toList.length ≤ 255 := by rw [hD]; omega
      show badE false ⟨1, A, c, Y.data.toList⟩ = false
      unfold badE
      simp only [Bool.false_and, Bool.false_or, Bool.or_eq_false_iff, decide_eq_false_iff_not]
      exact ⟨by decide, by decide, Nat.not_lt.2 h255⟩
    · exact hg e he
  have h1 := rid_first (prof := 4096) (.inr rfl) ⟨1, A, c, Y.data.toList⟩ E rfl (by omega) hgood
  refine ⟨(back (.inr rfl) _ (by simp; omega) hgood).1, ?_⟩
  show ∃ (S0 : ByteArray) (K0 : Bool), ridS 4096 (elemsB 4096 (⟨1, A, c, Y.data.toList⟩ :: E)) = S0 ∧ ridK 4096 (elemsB 4096 (⟨1, A, c, Y.data.toList⟩ :: E)) = K0 ∧ (K0 = true → S0 = Y)
  by_cases hr : right Y = true
  · refine ⟨Y, true, ?_, ?_, fun _ => rfl⟩
    · simp only [ba_list, hr, if_true] at h1
      unfold ridS
      rw [h1]
      exact ba_list Y
    · simp only [ba_list, hr, if_true] at h1
      unfold ridK
      rw [h1]
      rfl
  · refine ⟨⟨#[]⟩, false, ?_, ?_, fun h => by cases h⟩
    · simp only [ba_list, hr, if_false] at h1
      unfold ridS
      rw [h1]
      rfl
    · simp only [ba_list, hr, if_false] at h1
      unfold ridK
      rw [h1]
      rfl
set_option maxRecDepth 100000 in
set_option maxHeartbeats 8000000 in
theorem extBack_walk (A0 : Option Addr) (n0 c0 : Nat) (s : ByteArray) (two : Bool) (w : World) (hR : RI w w.heap.size A0 n0 c0) (hn0 : n0 ≤ 281474976710656) (hs : s.size ≤ 140737488351232) :
    Calls Try.prog 6 #[.slice A0 n0 c0, .string s, .bool two] w (Yes w) := by
  have hT := tape_at hR hn0
  have b0 : Below w.heap.size w (w.alloc (.cells #[.slice A0 n0 c0, .int .i64 0] 31)) := (Below.refl _ w).alloc (Nat.le_refl _) _
  go_enter Try.func6, Try.ntmps6
  go_wp2_with fail
  refine (tape_elems w.heap.size two _ hT).mono ?_
  rintro e w1 ⟨A, c, E, rfl, hE3, hIn, hRE, hm⟩
  have b1 : Below w.heap.size w w1 := b0.trans hm.below
  clear hT b0 hm hR
  go_upto_if 31 with (fail)
  go_cut [9] from 31 to 32 (fun s9 wc => ∃ prof : Nat, (prof = 48862 ∨ prof = 4096) ∧ (∀ e ∈ E, badE (isOne prof) e = false) ∧ s9 = .int .u16 (prof : Int) ∧ wc = w1)
  case first =>
    cases two
    · go_wp2_with fail
      go_meet
      case rel => exact ⟨48862, .inl rfl, fun e he => bad_in (hIn e he), rfl, rfl⟩
    · go_wp2_with fail
      go_meet
      case rel => exact ⟨4096, .inr rfl, fun e he => bad_in (hIn e he), rfl, rfl⟩
  case rest =>
    obtain ⟨prof, hp, hg, rfl, hwc⟩ := hcut
    obtain rfl := hwc.symm
    obtain ⟨k1, k2, k3⟩ := back hp E (by omega) hg
    have hg2 : ∀ e ∈ E, badE false e = false := fun e he => bad_in (two := true) ⟨(hIn e he).1, (hIn e he).2.1, (hIn e he).2.2.1, fun h => by cases h⟩
    have hd : ∀ e ∈ E, e.d.length ≤ 20 := fun e he => (hIn e he).2.2.1
    have q1 := ext_bytes prof A E.length c E w1 hRE (by omega) (fun e he => by have := hd e he; omega)
    unfold ElemsRet at q1
    rw [k1] at q1
    have hBl := elemsB_len prof E
    have hBm := elemsB_mod prof E
    clear hIn k1 hg hp
    generalize elemsB prof E = B at q1 k2 k3 hBl hBm
    go_wp2_with fail
    refine q1.mono ?_
    rintro e w2 ⟨A1, c1, rfl, r1, b2⟩
    have q2 := ext_read prof A1 _ c1 _ w2 r1 (by omega)
    unfold ReadOut at q2
    rw [k2, k3] at q2
    clear q1 k2 k3 r1
    go_wp2_with fail
    refine q2.mono ?_
    rintro e w3 ⟨A2, c2, F, rfl, hF, rF, b3⟩
    have b3 := b2.trans (b3.mono b2.size)
    have hRE := hRE.on b3
    have q3 := elems_yes A A2 E.length c F.length c2 E F w3 hRE rF hF.symm (by omega)
    have b3 := b1.trans (b3.mono b1.size)
    have g1 : (B.length : Int) % 4 = 0 := by omega
    have g2 : (B.length : Int).tmod 4 = 0 := by rw [Int.tmod_eq_emod_of_nonneg (by omega)]; omega
    clear q2 b2 b1 rF hF
    generalize F.length = NF at q3 ⊢
    generalize B.length = NB at g1 g2 hBl hBm ⊢
    go_wp2_with fail
    refine q3.mono ?_
    rintro e w4 ⟨rfl, b4⟩
    have hRE := hRE.on b4
    have b4 := b3.trans (b4.mono b3.size)
    clear q3 b3
    go_wp2_with fail
    have hRw := Lib.hid hRE
    go_loopw [14, 15, 16, 17, 18, 84] (fun i _ _ _ _ _ wr => ∃ q : Nat, q ≤ E.length ∧ i = .int .i64 ((q : Int) - 1) ∧ Below w4.heap.size w4 wr) (fun i _ _ _ _ _ _ => (intOf i + 1).toNat)
    case atStart => exact ⟨E.length, by omega, rfl, Below.refl _ _⟩
    case round =>
      obtain ⟨q, hq, rfl, b5⟩ := hrel
      by_cases hq0 : q = 0
      · subst hq0
        have g3 : ¬ (0 : Int) ≤ ((0 : Nat) : Int) - 1 := by omega
        have sz := extr_size s 20
        clear b3 g1 g2 hBl hBm hRE
        go_upto_if 117 with (fail)
        go_cut [1] from 115 to 120 (fun s1 wc => ∃ X : ByteArray, X.size ≤ 20 ∧ s1 = .string X ∧ wc = wr)
        case first =>
          by_cases ga : 20 < s.size
          · go_wp2_with fail
            go_meet
            case rel => exact ⟨_, by omega, rfl, rfl⟩
          · go_wp2_with fail
            go_meet
            case rel => exact ⟨s, by omega, rfl, rfl⟩
        case rest =>
          obtain ⟨X, hz, rfl, hwx⟩ := hcut
          obtain rfl := hwx.symm
          clear sz hs
          go_upto_if 121 with (fail)
          go_cut [1] from 120 to 122 (fun s1 wd => ∃ Y : ByteArray, Y.size ≤ 20 ∧ s1 = .string Y ∧ wd = wr)
          case first =>
            generalize hB : X.toList.isEmpty = B
            clear hB
            cases B
            · go_wp2_with fail
              go_meet
              case rel => exact ⟨X, hz, rfl, rfl⟩
            · go_wp2_with fail
              go_meet
              case rel => exact ⟨_, by decide, rfl, rfl⟩
          case rest =>
            obtain ⟨Y, hz2, rfl, hwd⟩ := hcut
            obtain rfl := hwd.symm
            clear hz
            obtain ⟨cY, WY, hcv, rY, bY, sY⟩ := conv_str Y wr
            have hkk := name_in hE3 hg2 (some ⟨wr.heap.size, 0, none⟩) cY Y hz2
            have oe := OwnE_one WY WY.heap.size (Nat.le_refl _) ⟨1, some ⟨wr.heap.size, 0, none⟩, cY, Y.data.toList⟩
            have oe : OwnE (WY.alloc (.cells #[.int .i64 1, .slice (some ⟨wr.heap.size, 0, none⟩) Y.size cY] 51)) WY.heap.size (.slice (some ⟨WY.heap.size, 0, none⟩) 1 1) [⟨1, some ⟨wr.heap.size, 0, none⟩, cY, Y.data.toList⟩] := oe
            have bz : Below WY.heap.size WY (WY.alloc (.cells #[.int .i64 1, .slice (some ⟨wr.heap.size, 0, none⟩) Y.size cY] 51)) := (Below.refl _ WY).alloc (Nat.le_refl _) _
            have b6 := b5.trans (bY.mono b5.size)
            have hs6 := b6.size
            have bx : Below w4.heap.size w4 (WY.alloc (.cells #[.int .i64 1, .slice (some ⟨wr.heap.size, 0, none⟩) Y.size cY] 51)) := b6.trans (bz.mono hs6)
            have ra := hRw.out.on bx
            have hb1 := Lib.hid (show ([⟨1, some ⟨wr.heap.size, 0, none⟩, cY, Y.data.toList⟩] : List El).length + E.length ≤ 1000 by simp; omega)
            have hEl := Lib.hid (show ([⟨1, some ⟨wr.heap.size, 0, none⟩, cY, Y.data.toList⟩] ++ E : List El).length = E.length + 1 by simp)
            have hEd := Lib.hid (show ∀ e ∈ ([⟨1, some ⟨wr.heap.size, 0, none⟩, cY, Y.data.toList⟩] ++ E : List El), e.d.length ≤ 20 by
              intro e he
              rcases List.mem_append.1 he with he | he
              · rw [List.mem_singleton.1 he]; exact hz2
              · exact hd e he)
            have hkk := Lib.hid hkk
            have rYh := Lib.hid rY
            have h1i : I64 1 := by unfold I64; omega
            have h1h := Lib.hid h1i
            clear sY hd hg2 rY hs6 h1i
            go_wp2_with (at_builtin; ((with_reducible refine wpList_appendE (by with_unfolding_all rfl) (.tmp 126) (.tmp 127) rfl WY.heap.size (.slice (some ⟨WY.heap.size, 0, none⟩) 1 1) [⟨1, some ⟨wr.heap.size, 0, none⟩, cY, Y.data.toList⟩] (by with_unfolding_all rfl) oe A E.length c E (by with_unfolding_all rfl) ra hb1.out (by simp) ?_); intro v9 w9 ha9; obtain ⟨o9, d9⟩ := ha9; have by9 := bz.trans d9; have bx9 : Below w4.heap.size w4 w9 := b6.trans (by9.mono b6.size); obtain ⟨Ax, cx, rfl, hRx⟩ := o9.re (fun e he => ((List.mem_append.1 he).elim (fun he => by rw [List.mem_singleton.1 he]; exact ⟨h1h.out, rYh.out.on by9⟩) (fun he => (hRw.out.on bx9).2.2.1 e he)))))
            have hEl := hEl.out
            rw [hEl] at hRx
            clear hEl hb1 h1h rYh ra oe bz by9 d9 o9 hcv
            revert hRx hEd hkk
            generalize ([⟨1, some ⟨wr.heap.size, 0, none⟩, cY, Y.data.toList⟩] ++ E : List El) = EE
            intro hEd hkk hRx
            obtain ⟨kk, S0, K0, hS0, hK0, hSK⟩ := hkk.out
            have q6 := ext_bytes 4096 Ax (E.length + 1) cx EE w9 hRx (by omega) (fun e he => by have := hEd.out e he; omega)
            unfold ElemsRet at q6
            rw [kk] at q6
            clear hkk kk hEd hRx
            refine q6.mono ?_
            rintro e w10 ⟨A6, c6, rfl, r6, b10⟩
            have l6 := elemsB_len 4096 EE
            have b10 := bx9.trans (b10.mono bx9.size)
            have q7 := fun W hW => ext_rid 4096 A6 _ c6 _ W (r6.on hW) (by omega)
            have q8 := fun W hW => ref_ridp 4096 A6 _ c6 _ W (r6.on hW) (by omega)
            unfold RidOut pExt at q7 q8
            rw [hS0, hK0] at q7 q8
            clear q6 r6 l6 bx9 bx b6 bY b5 hRw hS0 hK0
            generalize (elemsB 4096 EE).length = n6 at q7 q8 ⊢
            go_wp2_with fail
            refine (q7 _ (Below.refl _ _)).mono ?_
            rintro e w11 ⟨rfl, b11⟩
            clear q7
            go_wp2_with fail
            refine (q8 _ b11).mono ?_
            rintro e w12 ⟨rfl, b12⟩
            have b12 := b10.trans ((b11.trans (b12.mono b11.size)).mono b10.size)
            have b13 := b4.trans (b12.mono b4.size)
            have hkn := known4 w12
            clear q8 b11 b10 b12
            cases K0
            · go_wp2_with fail
              refine hkn.mono ?_
              rintro e w13 ⟨rfl, b14⟩
              go_wp2_with fail
              go_ret
              exact ⟨by simp, b13.trans (b14.mono b13.size)⟩
            · have hSK := hSK rfl
              subst hSK
              go_wp2_with fail
              refine hkn.mono ?_
              rintro e w13 ⟨rfl, b14⟩
              go_wp2_with fail
              go_ret
              exact ⟨by simp, b13.trans (b14.mono b13.size)⟩
      · obtain ⟨p, rfl⟩ : ∃ p, q = p + 1 := ⟨q - 1, by omega⟩
        have hpe : (((p + 1 : Nat) : Int) - 1) = (p : Int) := by omega
        rw [hpe]
        have hpE : p < E.length := by omega
        have g3 : (0 : Int) ≤ (p : Int) := by omega
        have g4 : (p : Int) < (E.length : Int) := by omega
        have hmp := hd _ (List.getElem_mem hpE)
        obtain ⟨b, off, hAe, hbl, hcell⟩ := hRE.2.2.2 (by omega)
        subst hAe
        have hc0 := fun (k : Nat) (hk : k < E.length) (W : World) (hW : Below w4.heap.size w4 W) => (by
          rw [Nat.mul_comm]
          exact (hW.cell (p := ⟨b, off + 2 * k, none⟩) hbl).trans (hcell _ _ (cellsE_get E k hk).1) : W.cell? ⟨b, off + k * 2, none⟩ = some (.int .i64 E[k].id))
        have hc1 := fun (k : Nat) (hk : k < E.length) (W : World) (hW : Below w4.heap.size w4 W) => (by
          rw [Nat.mul_comm]
          exact (hW.cell (p := ⟨b, off + (2 * k + 1), none⟩) hbl).trans (hcell _ _ (cellsE_get E k hk).2) : W.cell? ⟨b, off + k * 2 + 1, none⟩ = some (.slice E[k].A E[k].d.length E[k].c))
        have hc0h := Lib.hid hc0
        have hc1h := Lib.hid hc1
        have x0 := hc0 p hpE wr b5
        have q5 := ext_find (some ⟨b, off, none⟩) E.length c E E[p].id wr (hRE.on b5) (by omega) (fun e he => by have := hd e he; omega)
        have hF0 := Fst.start hpE
        have f1 := fun W => run_cutE W (some ⟨b, off, none⟩) E.length c p (by have := hRE.2.1; omega)
        have hRh := Lib.hid hRE
        clear hc0 hc1 hcell hRE hpe hmp
        obtain ⟨X, hX⟩ : ∃ X, E[p].id = X := ⟨_, rfl⟩
        rw [hX] at x0 q5 hF0
        have hXh := Lib.hid hX
        clear hX
        go_wp2_with fail
        refine q5.mono ?_
        rintro e w5 ⟨A5, m5, c5, rfl, r5, b6⟩
        have b6 := b5.trans (b6.mono b5.size)
        clear q5 x0 b5 g1 g2 hBl hBm b3 hRw hg2
        obtain ⟨K, hK⟩ : ∃ K, fdK (E.map El.dat) X = K := ⟨_, rfl⟩
        obtain ⟨D, hD⟩ : ∃ D, fdB (E.map El.dat) X = D := ⟨_, rfl⟩
        rw [hD] at r5
        rw [hK]
        have hKh := Lib.hid hK
        have hDh := Lib.hid hD
        clear hK hD
        go_wp2_with fail
        go_loopw [17, 18, 84] (fun fv _ t wr => ∃ k f : Nat, k ≤ p ∧ f ≤ p ∧ fv = .int .i64 (f : Int) ∧ t = .int .i64 (k : Int) ∧ Fst E X k f ∧ Below w5.heap.size w5 wr) (fun _ _ t _ => p - (intOf t).toNat)
        case atStart => exact ⟨0, p, by omega, by omega, rfl, rfl, hF0, Below.refl _ _⟩
        case round =>
          obtain ⟨k, f, hk, hf, rfl, rfl, hFs, b7⟩ := hrel
          have b8 := b6.trans (b7.mono b6.size)
          by_cases hkp : k < p
          · have g5 : (k : Int) < (p : Int) := by omega
            have hkE : k < E.length := by omega
            have g6 : (k : Int) < (E.length : Int) := by omega
            have y0 := hc0h.out k hkE _ b8
            have y1 := hc0h.out p hpE _ b8
            rw [hXh.out] at y1
            by_cases he : E[k].id = X
            · rw [he] at y0
              have hF2 := hFs.hit hkE he
              clear he hFs b8
              go_upto_region 18 with (fail)
              go_quiet (fail)
              have b9 := b7.trans ((below_drewN wr.heap.size wr nq).mono b7.size)
              clear y0 y1 b7
              generalize wr.drewN nq = W at b9 ⊢
              go_wp2_with fail
              go_roundw
              case rel => exact ⟨k + 1, min f k, by omega, by omega, by congr 1; omega, by go_num, hF2, b9⟩
              case measure => simp [intOf]; omega
            · have he' : (E[k].id == X) = false := by simpa using he
              have hF2 := hFs.miss hkE he
              revert y0 he'
              generalize E[k].id = Z
              intro y0 he'
              clear he hFs b8
              go_upto_region 18 with (fail)
              go_quiet (fail)
              have b9 := b7.trans ((below_drewN wr.heap.size wr nq).mono b7.size)
              clear y0 y1 b7
              generalize wr.drewN nq = W at b9 ⊢
              go_wp2_with fail
              go_roundw
              case rel => exact ⟨k + 1, f, by omega, by omega, rfl, by go_num, hF2, b9⟩
              case measure => simp [intOf]; omega
          · have g5 : ¬ (k : Int) < (p : Int) := by omega
            have hfE : f < E.length := by omega
            have g6 : (f : Int) < (E.length : Int) := by omega
            obtain ⟨fb, fk⟩ := hFs.done hfE (by omega)
            rw [hDh.out] at fb
            rw [hKh.out] at fk
            subst fk
            have z1 := hc1h.out f hfE wr b8
            have rf := ((hRh.out.2.2.1 _ (List.getElem_mem hfE)).2).on b8
            have r6 := r5.on b7
            revert fb z1 rf
            generalize E[f] = Z
            obtain ⟨zi, ZA, Zc, Zd⟩ := Z
            intro fb z1 rf
            simp only at fb z1 rf
            subst fb
            have s1 := fun n => (r6.on (below_drewN wr.heap.size wr n)).string (P := Try.prog) 26 5 9 Try.underlying26 Try.underlying5 Try.underlying9
            have s2 := fun n => (rf.on (below_drewN wr.heap.size wr n)).string (P := Try.prog) 26 5 9 Try.underlying26 Try.underlying5 Try.underlying9
            clear rf r6 hFs b7
            go_upto_region 21 with (fail)
            go_quiet (fail)
            have b9 := b8.trans ((below_drewN wr.heap.size wr nq).mono b8.size)
            clear s1 s2 z1 b8
            generalize wr.drewN nq = W at b9 ⊢
            go_wp2_with fail
            go_roundw
            case rel => exact ⟨p, by omega, by go_num, b9⟩
            case measure => simp [intOf] <;> omega
end Go.Proofs.Ytpcdmcaojgpfoaa.RP
