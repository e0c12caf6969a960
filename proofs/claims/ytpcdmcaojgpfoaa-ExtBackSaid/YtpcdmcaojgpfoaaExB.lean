/- Contract: ext.Bytes. -/
import Derived.Test.YtpcdmcaojgpfoaaExA
import Derived.Test.YtpcdmcaojgpfoaaExC
import Derived.Test.YtpcdmcaojgpfoaaCOctPad
import Derived.Test.YtpcdmcaojgpfoaaRegP
import Derived.Deep.CutRange
namespace Go.Proofs.Ytpcdmcaojgpfoaa.RP
open Go.RowKit
set_option linter.unusedVariables false
set_option linter.unusedSimpArgs false
set_option maxRecDepth 20000

/-- Two rows that lie beside one another in a block. -/
def twoC (l1 l2 : List UInt8) : Cl := .pred (fun v W => ∃ g A1 n1 c1 A2 n2 c2, v = .slice (some ⟨g, 0, none⟩) 2 2 ∧ g < W.heap.size ∧ W.cell? ⟨g, 0, none⟩ = some (.slice A1 n1 c1) ∧ W.cell? ⟨g, 1, none⟩ = some (.slice A2 n2 c2) ∧ R8 W W.heap.size A1 n1 c1 l1 ∧ R8 W W.heap.size A2 n2 c2 l2)
  (fun v w w' hb ⟨g, A1, n1, c1, A2, n2, c2, h0, h1, h2, h3, h4, h5⟩ => ⟨g, A1, n1, c1, A2, n2, c2, h0, Nat.lt_of_lt_of_le h1 hb.size, (hb.cell (p := ⟨g, 0, none⟩) h1).trans h2, (hb.cell (p := ⟨g, 1, none⟩) h1).trans h3, h4.on hb, h5.on hb⟩)
theorem twoC_of {l1 l2 : List UInt8} {c : Cl} {v : Value} {W : World} (h : c.holds v W) (e : c = twoC l1 l2) : ∃ g A1 n1 c1 A2 n2 c2, v = .slice (some ⟨g, 0, none⟩) 2 2 ∧ g < W.heap.size ∧ W.cell? ⟨g, 0, none⟩ = some (.slice A1 n1 c1) ∧ W.cell? ⟨g, 1, none⟩ = some (.slice A2 n2 c2) ∧ R8 W W.heap.size A1 n1 c1 l1 ∧ R8 W W.heap.size A2 n2 c2 l2 := by
  subst e
  exact h
theorem twoC_mk {l1 l2 : List UInt8} {c : Cl} {v : Value} {W : World} (e : c = twoC l1 l2) (h : ∃ g A1 n1 c1 A2 n2 c2, v = .slice (some ⟨g, 0, none⟩) 2 2 ∧ g < W.heap.size ∧ W.cell? ⟨g, 0, none⟩ = some (.slice A1 n1 c1) ∧ W.cell? ⟨g, 1, none⟩ = some (.slice A2 n2 c2) ∧ R8 W W.heap.size A1 n1 c1 l1 ∧ R8 W W.heap.size A2 n2 c2 l2) : c.holds v W := by
  subst e
  exact h
/-- As ElemsRet; what is answered lies in new memory. -/
def ElemsNew (prof : Nat) (E : List El) (w : World) (e : Ending) (w' : World) : Prop :=
  ∃ A' c', e = .returned (.tuple #[.slice A' (elemsB prof E).length c', .int .i64 (elemsErr prof E)]) ∧ R8 w' w'.heap.size A' (elemsB prof E).length c' (elemsB prof E) ∧ Below w.heap.size w w' ∧ ∀ ad, A' = some ad → w.heap.size ≤ ad.block
theorem ElemsNew.no {prof : Nat} {E : List El} {w w' : World} {k : Int} (h : elemsErr prof E = k) (hk : k ≠ 0) (hb : Below w.heap.size w w') : ElemsNew prof E w (.returned (.tuple #[.slice none 0 0, .int .i64 k])) w' := by
  have e : elemsB prof E = [] := by
    unfold elemsB
    rw [if_neg (by rw [h]; exact hk)]
  refine ⟨none, 0, ?_, ?_, hb, fun ad h => by cases h⟩
  · rw [e, h]
    rfl
  · rw [e]
    exact R8.nil _ _ _ _
set_option maxHeartbeats 4000000 in
theorem ext_bytes_new (prof : Nat) (A : Option Addr) (n c : Nat) (E : List El) (w : World) (h : RE w w.heap.size A n c E) (hn : n ≤ 140737488355328) (hdl : ∀ e ∈ E, e.d.length ≤ 140737488355328) :
    Calls Try.prog 24 #[.int .u16 (prof : Int), .slice A n c] w (ElemsNew prof E w) := by
  have hEn := Lib.hid h.1
  go_enter Try.func24, Try.ntmps24
  by_cases hp1 : prof ≠ 48862 ∧ prof ≠ 4096
  · have he : elemsErr prof E = 1 := if_pos hp1
    have hno := ElemsNew.no he (by omega) (Below.refl w.heap.size w)
    have hk := known_none prof hp1
    clear hp1 he
    go_wp2_with fail
    refine (hk _).mono ?_
    rintro e w' ⟨rfl, rfl⟩
    go_wp2_with fail
    go_ret2
    exact hno
  have hpp : prof = 48862 ∨ prof = 4096 := by omega
  by_cases h8 : 8 < n
  · have he : elemsErr prof E = 3 := by
      unfold elemsErr
      rw [if_neg (by omega), if_pos (by rw [hEn.out]; exact h8)]
    have hno := ElemsNew.no he (by omega) (Below.refl w.heap.size w)
    have g8 : (8 : Int) < (n : Int) := by omega
    clear he
    rcases hpp with rfl | rfl
    all_goals
      go_wp2_with (go_at_call 45; (first | refine (known_one _).mono ?_ | refine (known_two _).mono ?_); rintro e w' ⟨rfl, rfl⟩)
      go_ret2
      exact hno
  -- LOOPS
  have g8 : ¬ (8 : Int) < (n : Int) := by omega
  rcases hpp with rfl | rfl
  · have ho : isOne 48862 = true := by decide
    go_wp2_with (go_at_call 45; refine (known_one _).mono ?_; rintro e w' ⟨rfl, rfl⟩)
    go_loopw [6, 8, 19] (fun v _ i wr => ∃ (q : Nat) (A' : Option Addr) (c' : Nat), q ≤ n ∧ i = .int .i64 (q : Int) ∧ v = .slice A' (elBs true (E.take q)).length c' ∧ R8 wr wr.heap.size A' (elBs true (E.take q)).length c' (elBs true (E.take q)) ∧ (∀ e ∈ E.take q, badE true e = false) ∧ Below w.heap.size w wr) (fun _ _ i _ => n - (intOf i).toNat)
    case atStart => exact ⟨0, none, 0, by omega, rfl, rfl, R8.nil _ _ _ _, by simp, Below.refl _ _⟩
    case round =>
      obtain ⟨q, A', c', hq, rfl, rfl, hor, hgood, hbr⟩ := hrel
      have hlq := elBs_len true (E.take q) hgood
      rw [List.length_take] at hlq
      by_cases hlt : q < n
      · have g3 : decide ((q : Int) < (n : Int)) = true := by simp; omega
        have hqE : q < E.length := by rw [hEn.out]; exact hlt
        have hEm : E[q] ∈ E := List.getElem_mem hqE
        have hEl := h.2.2.1 _ hEm
        have hdq := hdl _ hEm
        obtain ⟨b, off, rfl, hbl, hcell⟩ := h.2.2.2 (by omega)
        obtain ⟨k1, k2⟩ := cellsE_get E q hqE
        have hstep := Lib.hid (elBs_step true E q hqE)
        have htake := Lib.hid (show E.take (q + 1) = E.take q ++ [E[q]] by rw [List.take_add_one, List.getElem?_eq_getElem hqE]; rfl)
        have hbad := fun (hb : badE true E[q] = true) => err_bad (prof := 48862) (by decide) (by rw [hEn.out]; omega) hqE (by rw [ho]; exact hb)
        have c0 : wr.cell? ⟨b, off + q * 2, none⟩ = some (.int .i64 E[q].id) := by
          rw [Nat.mul_comm]
          exact (hbr.cell (p := ⟨b, off + 2 * q, none⟩) hbl).trans (hcell _ _ k1)
        have c1 : wr.cell? ⟨b, off + q * 2 + 1, none⟩ = some (.slice E[q].A E[q].d.length E[q].c) := by
          rw [Nat.mul_comm]
          exact (hbr.cell (p := ⟨b, off + (2 * q + 1), none⟩) hbl).trans (hcell _ _ k2)
        have hElr := hEl.2.below hbr
        have hEbl := And.intro hgood (And.intro hstep htake)
        have hsz := hbr.size
        clear hcell k1 k2 hgood hstep htake hdl
        have hfb := fit_bad true E[q]
        revert hEl hdq hbad c0 c1 hElr hEbl hEm hfb
        generalize E[q] = X
        obtain ⟨id, XA, Xc, Xd⟩ := X
        intro hEm hEl hdq hbad c0 c1 hElr hEbl hfb
        obtain ⟨hgood, hstep, htake⟩ := hEbl
        simp only at hdq c0 c1 hElr hfb
        have hblk : (wr.alloc (.cells #[.int .i64 id, .slice XA Xd.length Xc] 51)).heap[wr.heap.size]? = some (.cells #[.int .i64 id, .slice XA Xd.length Xc] 51 (0, 0)) := Blk.new _ _ _
        have hbW := hbr.alloc hsz (.cells #[.int .i64 id, .slice XA Xd.length Xc] 51)
        have hal : Below wr.heap.size wr (wr.alloc (.cells #[.int .i64 id, .slice XA Xd.length Xc] 51)) := (Below.refl _ wr).alloc (Nat.le_refl _) _
        have horW := hor.on hal
        have hElW := (hElr.more hsz).on hal
        clear hEm hEl hElr hor hbr hal
        go_upto_region 9 with (fail)
        clear c0 c1
        revert hblk horW hbW hElW
        generalize wr.alloc (.cells #[.int .i64 id, .slice XA Xd.length Xc] 51) = W
        revert hsz
        generalize wr.heap.size = L
        intro hsz hblk hbW horW hElW
        have hsW := hbW.size
        have hLW : L < W.heap.size := (Array.getElem?_eq_some_iff.1 hblk).1
        have c0 : W.cell? ⟨L, 0, none⟩ = some (.int .i64 id) := by simp [World.cell?, hblk]
        have c1 : W.cell? ⟨L, 1, none⟩ = some (.slice XA Xd.length Xc) := by simp [World.cell?, hblk]
        have hft := fun W => fits_one id XA Xd.length Xc W
        by_cases hfit : fitE true id Xd.length = true
        rotate_left
        · have hff : fitE true id Xd.length = false := by simpa using hfit
          have hb1 : badE true ⟨id, XA, Xc, Xd⟩ = true := by rw [hff] at hfb; simpa using hfb.symm
          have hno := fun w' hb => ElemsNew.no (w := w) (w' := w') (hbad hb1) (by omega) hb
          rw [hff] at hft
          clear hbad hfb hfit hff hb1
          go_wp2_with fail
          refine (hft _).mono ?_
          rintro e w2 ⟨rfl, hb2⟩
          go_wp2_with fail
          go_ret2
          exact hno _ (hbW.trans (hb2.mono hsW))
        have hok : badE true ⟨id, XA, Xc, Xd⟩ = false := by rw [hfit] at hfb; simpa using hfb.symm
        have hd9 : Xd.length ≤ 255 := by
          simp only [badE, Bool.or_eq_false_iff, decide_eq_false_iff_not] at hok
          omega
        have hfith := Lib.hid hfit
        rw [hfit] at hft
        clear hbad hfb hfit
        go_wp2_with fail
        refine (hft _).mono ?_
        rintro e w2 ⟨rfl, hb2⟩
        have c0 := (hb2.cell (p := ⟨L, 0, none⟩) hLW).trans c0
        have c1 := (hb2.cell (p := ⟨L, 1, none⟩) hLW).trans c1
        have hor2 := horW.on hb2
        have hEl2 := hElW.on hb2
        have hbr2 := hbW.trans (hb2.mono hsW)
        have hL2 := Nat.lt_of_lt_of_le hLW hb2.size
        clear hft hb2 hbW horW hElW hblk hLW hsW
        go_upto_region 11 with (fail)
        have hhd : (hdB true id Xd.length).length ≤ 2 := by simp [hdB]
        have hls : (elBs true (E.take q)).length ≤ 2400 := by omega
        obtain ⟨S, hS⟩ : ∃ S, elBs true (E.take q) = S := ⟨_, rfl⟩
        have hSt : elBs true (E.take (q + 1)) = S ++ hdB true id Xd.length ++ Xd := by rw [hstep.out, elB_hd, hS, List.append_assoc]
        have hSt := Lib.hid hSt
        rw [hS] at hor2 hls ⊢
        clear hS hlq hstep
        refine wp_region_tbl [.val (.slice A' S.length c'), .val (.int .u16 48862), .val (.agg #[.int .i64 id, .slice XA Xd.length Xc]), .bytes ((S ++ hdB true id Xd.length)), .val (.pointer (some ⟨L, 1, none⟩)), .val (.slice XA Xd.length Xc), twoC (S ++ hdB true id Xd.length) Xd, .bytes ((S ++ hdB true id Xd.length ++ Xd)), .bytes ((S ++ hdB true id Xd.length ++ Xd))] (by kernel_rfl) (by kernel_rfl) (by kernel_rfl) (AllObl.all ⟨?_, ?_, ?_, ?_, ?_, ?_, ?_, ?_, ?_, trivial⟩) ?_
        · exact Obl.move trivial _ (Or.inl rfl) (by kernel_rfl)
        · exact Obl.move trivial _ (Or.inl rfl) (by kernel_rfl)
        · exact Obl.pure trivial (.agg #[.int .i64 id, .slice XA Xd.length Xc]) (by kernel_rfl) (fun ev w hb hx => by
            have e8 : ev (.tmp 8) = .pointer (some ⟨L, 0, none⟩) := holds_val (hx (.tmp 8)) (by kernel_rfl)
            (have m0 := (((drew_below _).trans hb).cell (p := ⟨L, 0, none⟩) hL2).trans c0; have m1 := (((drew_below _).trans hb).cell (p := ⟨L, 1, none⟩) hL2).trans c1; simp [execOp, e8, go_sem, m0, m1]))
        · exact Obl.call trivial 48 #[.tmp 27, .tmp 28, .tmp 29] _ rfl Try.f48 Try.func48 (by kernel_rfl) (by kernel_rfl) (fun ev w hb hx => by
            have e27 : ev (.tmp 27) = .slice A' S.length c' := holds_val (hx (.tmp 27)) (by kernel_rfl)
            have e28 : ev (.tmp 28) = .int .u16 48862 := holds_val (hx (.tmp 28)) (by kernel_rfl)
            have e29 : ev (.tmp 29) = .agg #[.int .i64 id, .slice XA Xd.length Xc] := holds_val (hx (.tmp 29)) (by kernel_rfl)
            simp only [List.map_toArray, List.map_cons, List.map_nil, e27, e28, e29]
            exact ((head_one A' S.length c' S id XA Xd.length Xc w (hor2.on ((drew_below _).trans hb)) (by omega) hfith.out)).mono fun _ _ hh => Out8.holds (by kernel_rfl) hh)
        · exact Obl.pure trivial (.pointer (some ⟨L, 1, none⟩)) (by kernel_rfl) (fun ev w hb hx => by
            have e8 : ev (.tmp 8) = .pointer (some ⟨L, 0, none⟩) := holds_val (hx (.tmp 8)) (by kernel_rfl)
            simp [execOp, e8, go_sem])
        · exact Obl.pure trivial (.slice XA Xd.length Xc) (by kernel_rfl) (fun ev w hb hx => by
            have e31 : ev (.tmp 31) = .pointer (some ⟨L, 1, none⟩) := holds_val (hx (.tmp 31)) (by kernel_rfl)
            (have m1 := (((drew_below _).trans hb).cell (p := ⟨L, 1, none⟩) hL2).trans c1; simp [execOp, e31, go_sem, m1]))
        · exact Obl.act trivial (fun ev w hb hx => by
            obtain ⟨A30, n30, c30, e30, r30⟩ := holds_bytes (hx (.tmp 30)) (l := (S ++ hdB true id Xd.length)) (by kernel_rfl)
            have e32 : ev (.tmp 32) = .slice XA Xd.length Xc := holds_val (hx (.tmp 32)) (by kernel_rfl)
            (have hal : Below w.heap.size w (w.alloc (.cells #[.slice A30 n30 c30, .slice XA Xd.length Xc] 26)) := (Below.refl _ w).alloc (Nat.le_refl _) _; exact ⟨.slice (some ⟨w.heap.size, 0, none⟩) 2 2, w.alloc (.cells #[.slice A30 n30 c30, .slice XA Xd.length Xc] 26), by simp [execOp, e30, e32, go_sem], hal, twoC_mk (l1 := S ++ hdB true id Xd.length) (l2 := Xd) (by kernel_rfl) ⟨w.heap.size, A30, n30, c30, XA, Xd.length, Xc, rfl, by simp, by simp, by simp, r30.on hal, (hEl2.on ((drew_below _).trans hb)).on hal⟩⟩))
        · exact Obl.call trivial 47 #[.tmp 33] _ rfl Try.f47 Try.func47 (by kernel_rfl) (by kernel_rfl) (fun ev w hb hx => by
            obtain ⟨g33, Y1, y1, d1, Y2, y2, d2, e33, hg33, j0, j1, s1, s2⟩ := twoC_of (hx (.tmp 33)) (by kernel_rfl)
            simp only [List.map_toArray, List.map_cons, List.map_nil, e33]
            exact ((concat2 g33 Y1 Y2 y1 d1 y2 d2 (S ++ hdB true id Xd.length) Xd w hg33 j0 j1 s1 s2 (by have := s1.1; have := s2.1; rw [List.length_append] at *; omega))).mono fun _ _ hh => Out8.holds (by kernel_rfl) hh)
        · exact Obl.move trivial _ (Or.inr rfl) (by kernel_rfl)
        intro a WR hb hsz hdf hold hv
        have ha := act_puts [27, 28, 29, 30, 31, 32, 33, 34, 6] (by kernel_rfl) hsz hdf hold
        simp only [putAll] at ha
        obtain ⟨A6, n6, c6, z6, r6⟩ := holds_bytes (hv 8 6 (by kernel_rfl)) (l := (S ++ hdB true id Xd.length ++ Xd)) (by kernel_rfl)
        rw [z6] at ha
        generalize a.tmps.getD 27 undef = x27 at ha
        generalize a.tmps.getD 28 undef = x28 at ha
        generalize a.tmps.getD 29 undef = x29 at ha
        generalize a.tmps.getD 30 undef = x30 at ha
        generalize a.tmps.getD 31 undef = x31 at ha
        generalize a.tmps.getD 32 undef = x32 at ha
        generalize a.tmps.getD 33 undef = x33 at ha
        generalize a.tmps.getD 34 undef = x34 at ha
        clear hv hold hsz hdf z6
        subst ha
        simp only [Act.put, List.setIfInBounds_toArray, List.set_cons_succ, List.set_cons_zero]
        have hbf := hbr2.trans (((drew_below _).trans hb).mono hbr2.size)
        have hn6 := r6.1
        subst hn6
        rw [← hSt.out] at r6 ⊢
        clear hor2 hEl2 hL2 c0 c1 hbr2 hb
        go_wp2_with fail
        go_roundw
        case rel =>
          refine ⟨q + 1, A6, c6, by omega, by go_num, rfl, r6, ?_, hbf⟩
          rw [htake.out]
          intro e he
          rcases List.mem_append.1 he with he | he
          · exact hgood e he
          · rw [List.mem_singleton.1 he]
            exact hok
        case measure => simp [intOf]; omega
      · have g3 : decide ((q : Int) < (n : Int)) = false := by simp; omega
        have hqn : q = n := by omega
        have hall : E.take q = E := List.take_of_length_le (by rw [hEn.out]; omega)
        rw [hall] at hor hgood
        have hlb := elBs_len true E hgood
        rw [hEn.out] at hlb
        have he0 := err_ok (prof := 48862) (by decide) (by rw [hEn.out]; omega) (by rw [ho]; exact hgood)
        have heB : elemsB 48862 E = padL (elBs true E) 4 := by
          unfold elemsB
          rw [if_pos he0, ho]
        have hfin := fun A' c' w' (hr : R8 w' w'.heap.size A' (padL (elBs true E) 4).length c' (padL (elBs true E) 4)) (hb : Below w.heap.size w w') hf => (⟨A', c', by rw [heB, he0], by rw [heB]; exact hr, hb, hf⟩ : ElemsNew 48862 E w (.returned (.tuple #[.slice A' (padL (elBs true E) 4).length c', .int .i64 0])) w')
        rw [hall]
        clear he0 heB hall hlq
        subst hqn
        go_wp2_with fail
        refine (pad_any _ _ _ _ _ hor (by omega) 4).mono ?_
        rintro e w2 ⟨g2, m2, rfl, hm2, hG2, hg2, hb2⟩
        have hR2 : R8 w2 w2.heap.size (some ⟨g2, 0, none⟩) m2 m2 (padL (elBs true E) 4) := hG2.r8 hm2 (Nat.le_refl _)
        have hm2 := hR2.1
        clear hG2
        subst hm2
        have hsbr := hbr.size
        have hf := hfin _ _ _ hR2 (hbr.trans (hb2.mono hbr.size)) (fun ad e => by injection e with e; subst e; show _ ≤ g2; omega)
        go_wp2_with fail
        go_ret2
        exact hf
  · have ho : isOne 4096 = false := by decide
    go_wp2_with (go_at_call 45; refine (known_two _).mono ?_; rintro e w' ⟨rfl, rfl⟩)
    go_loopw [6, 8, 19] (fun v _ i wr => ∃ (q : Nat) (A' : Option Addr) (c' : Nat), q ≤ n ∧ i = .int .i64 (q : Int) ∧ v = .slice A' (elBs false (E.take q)).length c' ∧ R8 wr wr.heap.size A' (elBs false (E.take q)).length c' (elBs false (E.take q)) ∧ (∀ e ∈ E.take q, badE false e = false) ∧ Below w.heap.size w wr) (fun _ _ i _ => n - (intOf i).toNat)
    case atStart => exact ⟨0, none, 0, by omega, rfl, rfl, R8.nil _ _ _ _, by simp, Below.refl _ _⟩
    case round =>
      obtain ⟨q, A', c', hq, rfl, rfl, hor, hgood, hbr⟩ := hrel
      have hlq := elBs_len false (E.take q) hgood
      rw [List.length_take] at hlq
      by_cases hlt : q < n
      · have g3 : decide ((q : Int) < (n : Int)) = true := by simp; omega
        have hqE : q < E.length := by rw [hEn.out]; exact hlt
        have hEm : E[q] ∈ E := List.getElem_mem hqE
        have hEl := h.2.2.1 _ hEm
        have hdq := hdl _ hEm
        obtain ⟨b, off, rfl, hbl, hcell⟩ := h.2.2.2 (by omega)
        obtain ⟨k1, k2⟩ := cellsE_get E q hqE
        have hstep := Lib.hid (elBs_step false E q hqE)
        have htake := Lib.hid (show E.take (q + 1) = E.take q ++ [E[q]] by rw [List.take_add_one, List.getElem?_eq_getElem hqE]; rfl)
        have hbad := fun (hb : badE false E[q] = true) => err_bad (prof := 4096) (by decide) (by rw [hEn.out]; omega) hqE (by rw [ho]; exact hb)
        have c0 : wr.cell? ⟨b, off + q * 2, none⟩ = some (.int .i64 E[q].id) := by
          rw [Nat.mul_comm]
          exact (hbr.cell (p := ⟨b, off + 2 * q, none⟩) hbl).trans (hcell _ _ k1)
        have c1 : wr.cell? ⟨b, off + q * 2 + 1, none⟩ = some (.slice E[q].A E[q].d.length E[q].c) := by
          rw [Nat.mul_comm]
          exact (hbr.cell (p := ⟨b, off + (2 * q + 1), none⟩) hbl).trans (hcell _ _ k2)
        have hElr := hEl.2.below hbr
        have hEbl := And.intro hgood (And.intro hstep htake)
        have hsz := hbr.size
        clear hcell k1 k2 hgood hstep htake hdl
        have hfb := fit_bad false E[q]
        revert hEl hdq hbad c0 c1 hElr hEbl hEm hfb
        generalize E[q] = X
        obtain ⟨id, XA, Xc, Xd⟩ := X
        intro hEm hEl hdq hbad c0 c1 hElr hEbl hfb
        obtain ⟨hgood, hstep, htake⟩ := hEbl
        simp only at hdq c0 c1 hElr hfb
        have hblk : (wr.alloc (.cells #[.int .i64 id, .slice XA Xd.length Xc] 51)).heap[wr.heap.size]? = some (.cells #[.int .i64 id, .slice XA Xd.length Xc] 51 (0, 0)) := Blk.new _ _ _
        have hbW := hbr.alloc hsz (.cells #[.int .i64 id, .slice XA Xd.length Xc] 51)
        have hal : Below wr.heap.size wr (wr.alloc (.cells #[.int .i64 id, .slice XA Xd.length Xc] 51)) := (Below.refl _ wr).alloc (Nat.le_refl _) _
        have horW := hor.on hal
        have hElW := (hElr.more hsz).on hal
        clear hEm hEl hElr hor hbr hal
        go_upto_region 9 with (fail)
        clear c0 c1
        revert hblk horW hbW hElW
        generalize wr.alloc (.cells #[.int .i64 id, .slice XA Xd.length Xc] 51) = W
        revert hsz
        generalize wr.heap.size = L
        intro hsz hblk hbW horW hElW
        have hsW := hbW.size
        have hLW : L < W.heap.size := (Array.getElem?_eq_some_iff.1 hblk).1
        have c0 : W.cell? ⟨L, 0, none⟩ = some (.int .i64 id) := by simp [World.cell?, hblk]
        have c1 : W.cell? ⟨L, 1, none⟩ = some (.slice XA Xd.length Xc) := by simp [World.cell?, hblk]
        have hft := fun W => fits_two id XA Xd.length Xc W
        by_cases hfit : fitE false id Xd.length = true
        rotate_left
        · have hff : fitE false id Xd.length = false := by simpa using hfit
          have hb1 : badE false ⟨id, XA, Xc, Xd⟩ = true := by rw [hff] at hfb; simpa using hfb.symm
          have hno := fun w' hb => ElemsNew.no (w := w) (w' := w') (hbad hb1) (by omega) hb
          rw [hff] at hft
          clear hbad hfb hfit hff hb1
          go_wp2_with fail
          refine (hft _).mono ?_
          rintro e w2 ⟨rfl, hb2⟩
          go_wp2_with fail
          go_ret2
          exact hno _ (hbW.trans (hb2.mono hsW))
        have hok : badE false ⟨id, XA, Xc, Xd⟩ = false := by rw [hfit] at hfb; simpa using hfb.symm
        have hd9 : Xd.length ≤ 255 := by
          simp only [badE, Bool.or_eq_false_iff, decide_eq_false_iff_not] at hok
          omega
        have hfith := Lib.hid hfit
        rw [hfit] at hft
        clear hbad hfb hfit
        go_wp2_with fail
        refine (hft _).mono ?_
        rintro e w2 ⟨rfl, hb2⟩
        have c0 := (hb2.cell (p := ⟨L, 0, none⟩) hLW).trans c0
        have c1 := (hb2.cell (p := ⟨L, 1, none⟩) hLW).trans c1
        have hor2 := horW.on hb2
        have hEl2 := hElW.on hb2
        have hbr2 := hbW.trans (hb2.mono hsW)
        have hL2 := Nat.lt_of_lt_of_le hLW hb2.size
        clear hft hb2 hbW horW hElW hblk hLW hsW
        go_upto_region 11 with (fail)
        have hhd : (hdB false id Xd.length).length ≤ 2 := by simp [hdB]
        have hls : (elBs false (E.take q)).length ≤ 2400 := by omega
        obtain ⟨S, hS⟩ : ∃ S, elBs false (E.take q) = S := ⟨_, rfl⟩
        have hSt : elBs false (E.take (q + 1)) = S ++ hdB false id Xd.length ++ Xd := by rw [hstep.out, elB_hd, hS, List.append_assoc]
        have hSt := Lib.hid hSt
        rw [hS] at hor2 hls ⊢
        clear hS hlq hstep
        refine wp_region_tbl [.val (.slice A' S.length c'), .val (.int .u16 4096), .val (.agg #[.int .i64 id, .slice XA Xd.length Xc]), .bytes ((S ++ hdB false id Xd.length)), .val (.pointer (some ⟨L, 1, none⟩)), .val (.slice XA Xd.length Xc), twoC (S ++ hdB false id Xd.length) Xd, .bytes ((S ++ hdB false id Xd.length ++ Xd)), .bytes ((S ++ hdB false id Xd.length ++ Xd))] (by kernel_rfl) (by kernel_rfl) (by kernel_rfl) (AllObl.all ⟨?_, ?_, ?_, ?_, ?_, ?_, ?_, ?_, ?_, trivial⟩) ?_
        · exact Obl.move trivial _ (Or.inl rfl) (by kernel_rfl)
        · exact Obl.move trivial _ (Or.inl rfl) (by kernel_rfl)
        · exact Obl.pure trivial (.agg #[.int .i64 id, .slice XA Xd.length Xc]) (by kernel_rfl) (fun ev w hb hx => by
            have e8 : ev (.tmp 8) = .pointer (some ⟨L, 0, none⟩) := holds_val (hx (.tmp 8)) (by kernel_rfl)
            (have m0 := (((drew_below _).trans hb).cell (p := ⟨L, 0, none⟩) hL2).trans c0; have m1 := (((drew_below _).trans hb).cell (p := ⟨L, 1, none⟩) hL2).trans c1; simp [execOp, e8, go_sem, m0, m1]))
        · exact Obl.call trivial 48 #[.tmp 27, .tmp 28, .tmp 29] _ rfl Try.f48 Try.func48 (by kernel_rfl) (by kernel_rfl) (fun ev w hb hx => by
            have e27 : ev (.tmp 27) = .slice A' S.length c' := holds_val (hx (.tmp 27)) (by kernel_rfl)
            have e28 : ev (.tmp 28) = .int .u16 4096 := holds_val (hx (.tmp 28)) (by kernel_rfl)
            have e29 : ev (.tmp 29) = .agg #[.int .i64 id, .slice XA Xd.length Xc] := holds_val (hx (.tmp 29)) (by kernel_rfl)
            simp only [List.map_toArray, List.map_cons, List.map_nil, e27, e28, e29]
            exact ((head_two A' S.length c' S id XA Xd.length Xc w (hor2.on ((drew_below _).trans hb)) (by omega) hfith.out)).mono fun _ _ hh => Out8.holds (by kernel_rfl) hh)
        · exact Obl.pure trivial (.pointer (some ⟨L, 1, none⟩)) (by kernel_rfl) (fun ev w hb hx => by
            have e8 : ev (.tmp 8) = .pointer (some ⟨L, 0, none⟩) := holds_val (hx (.tmp 8)) (by kernel_rfl)
            simp [execOp, e8, go_sem])
        · exact Obl.pure trivial (.slice XA Xd.length Xc) (by kernel_rfl) (fun ev w hb hx => by
            have e31 : ev (.tmp 31) = .pointer (some ⟨L, 1, none⟩) := holds_val (hx (.tmp 31)) (by kernel_rfl)
            (have m1 := (((drew_below _).trans hb).cell (p := ⟨L, 1, none⟩) hL2).trans c1; simp [execOp, e31, go_sem, m1]))
        · exact Obl.act trivial (fun ev w hb hx => by
            obtain ⟨A30, n30, c30, e30, r30⟩ := holds_bytes (hx (.tmp 30)) (l := (S ++ hdB false id Xd.length)) (by kernel_rfl)
            have e32 : ev (.tmp 32) = .slice XA Xd.length Xc := holds_val (hx (.tmp 32)) (by kernel_rfl)
            (have hal : Below w.heap.size w (w.alloc (.cells #[.slice A30 n30 c30, .slice XA Xd.length Xc] 26)) := (Below.refl _ w).alloc (Nat.le_refl _) _; exact ⟨.slice (some ⟨w.heap.size, 0, none⟩) 2 2, w.alloc (.cells #[.slice A30 n30 c30, .slice XA Xd.length Xc] 26), by simp [execOp, e30, e32, go_sem], hal, twoC_mk (l1 := S ++ hdB false id Xd.length) (l2 := Xd) (by kernel_rfl) ⟨w.heap.size, A30, n30, c30, XA, Xd.length, Xc, rfl, by simp, by simp, by simp, r30.on hal, (hEl2.on ((drew_below _).trans hb)).on hal⟩⟩))
        · exact Obl.call trivial 47 #[.tmp 33] _ rfl Try.f47 Try.func47 (by kernel_rfl) (by kernel_rfl) (fun ev w hb hx => by
            obtain ⟨g33, Y1, y1, d1, Y2, y2, d2, e33, hg33, j0, j1, s1, s2⟩ := twoC_of (hx (.tmp 33)) (by kernel_rfl)
            simp only [List.map_toArray, List.map_cons, List.map_nil, e33]
            exact ((concat2 g33 Y1 Y2 y1 d1 y2 d2 (S ++ hdB false id Xd.length) Xd w hg33 j0 j1 s1 s2 (by have := s1.1; have := s2.1; rw [List.length_append] at *; omega))).mono fun _ _ hh => Out8.holds (by kernel_rfl) hh)
        · exact Obl.move trivial _ (Or.inr rfl) (by kernel_rfl)
        intro a WR hb hsz hdf hold hv
        have ha := act_puts [27, 28, 29, 30, 31, 32, 33, 34, 6] (by kernel_rfl) hsz hdf hold
        simp only [putAll] at ha
        obtain ⟨A6, n6, c6, z6, r6⟩ := holds_bytes (hv 8 6 (by kernel_rfl)) (l := (S ++ hdB false id Xd.length ++ Xd)) (by kernel_rfl)
        rw [z6] at ha
        generalize a.tmps.getD 27 undef = x27 at ha
        generalize a.tmps.getD 28 undef = x28 at ha
        generalize a.tmps.getD 29 undef = x29 at ha
        generalize a.tmps.getD 30 undef = x30 at ha
        generalize a.tmps.getD 31 undef = x31 at ha
        generalize a.tmps.getD 32 undef = x32 at ha
        generalize a.tmps.getD 33 undef = x33 at ha
        generalize a.tmps.getD 34 undef = x34 at ha
        clear hv hold hsz hdf z6
        subst ha
        simp only [Act.put, List.setIfInBounds_toArray, List.set_cons_succ, List.set_cons_zero]
        have hbf := hbr2.trans (((drew_below _).trans hb).mono hbr2.size)
        have hn6 := r6.1
        subst hn6
        rw [← hSt.out] at r6 ⊢
        clear hor2 hEl2 hL2 c0 c1 hbr2 hb
        go_wp2_with fail
        go_roundw
        case rel =>
          refine ⟨q + 1, A6, c6, by omega, by go_num, rfl, r6, ?_, hbf⟩
          rw [htake.out]
          intro e he
          rcases List.mem_append.1 he with he | he
          · exact hgood e he
          · rw [List.mem_singleton.1 he]
            exact hok
        case measure => simp [intOf]; omega
      · have g3 : decide ((q : Int) < (n : Int)) = false := by simp; omega
        have hqn : q = n := by omega
        have hall : E.take q = E := List.take_of_length_le (by rw [hEn.out]; omega)
        rw [hall] at hor hgood
        have hlb := elBs_len false E hgood
        rw [hEn.out] at hlb
        have he0 := err_ok (prof := 4096) (by decide) (by rw [hEn.out]; omega) (by rw [ho]; exact hgood)
        have heB : elemsB 4096 E = padL (elBs false E) 4 := by
          unfold elemsB
          rw [if_pos he0, ho]
        have hfin := fun A' c' w' (hr : R8 w' w'.heap.size A' (padL (elBs false E) 4).length c' (padL (elBs false E) 4)) (hb : Below w.heap.size w w') hf => (⟨A', c', by rw [heB, he0], by rw [heB]; exact hr, hb, hf⟩ : ElemsNew 4096 E w (.returned (.tuple #[.slice A' (padL (elBs false E) 4).length c', .int .i64 0])) w')
        rw [hall]
        clear he0 heB hall hlq
        subst hqn
        go_wp2_with fail
        refine (pad_any _ _ _ _ _ hor (by omega) 4).mono ?_
        rintro e w2 ⟨g2, m2, rfl, hm2, hG2, hg2, hb2⟩
        have hR2 : R8 w2 w2.heap.size (some ⟨g2, 0, none⟩) m2 m2 (padL (elBs false E) 4) := hG2.r8 hm2 (Nat.le_refl _)
        have hm2 := hR2.1
        clear hG2
        subst hm2
        have hsbr := hbr.size
        have hf := hfin _ _ _ hR2 (hbr.trans (hb2.mono hbr.size)) (fun ad e => by injection e with e; subst e; show _ ≤ g2; omega)
        go_wp2_with fail
        go_ret2
        exact hf
theorem ext_bytes (prof : Nat) (A : Option Addr) (n c : Nat) (E : List El) (w : World) (h : RE w w.heap.size A n c E) (hn : n ≤ 140737488355328) (hdl : ∀ e ∈ E, e.d.length ≤ 140737488355328) :
    Calls Try.prog 24 #[.int .u16 (prof : Int), .slice A n c] w (ElemsRet prof E w) :=
  (ext_bytes_new prof A n c E w h hn hdl).mono fun _ _ ⟨A', c', h1, h2, h3, _⟩ => ⟨A', c', h1, h2, h3⟩
end Go.Proofs.Ytpcdmcaojgpfoaa.RP
