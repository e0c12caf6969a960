/- Contracts: limelightlaw4.elems (of two rows that hold the same), reads, same. -/
import Derived.Test.YtpcdmcaojgpfoaaExG
import Derived.Test.YtpcdmcaojgpfoaaExB
namespace Go.Proofs.Ytpcdmcaojgpfoaa.RP
open Go.RowKit
set_option linter.unusedVariables false
set_option linter.unusedSimpArgs false
set_option maxRecDepth 20000

theorem map_dat_get {E F : List El} (h : E.map El.dat = F.map El.dat) (q : Nat) (h1 : q < E.length) (h2 : q < F.length) : E[q].id = F[q].id ∧ E[q].d = F[q].d := by
  have h3 : (E.map El.dat)[q]? = (F.map El.dat)[q]? := by rw [h]
  rw [List.getElem?_map, List.getElem?_map, List.getElem?_eq_getElem h1, List.getElem?_eq_getElem h2] at h3
  simp only [Option.map_some, Option.some.injEq, El.dat, Prod.mk.injEq] at h3
  exact h3
set_option maxHeartbeats 2000000 in
theorem elems_yes (A1 A2 : Option Addr) (n c1 m c2 : Nat) (E F : List El) (w : World) (h1 : RE w w.heap.size A1 n c1 E) (h2 : RE w w.heap.size A2 m c2 F) (hEF : E.map El.dat = F.map El.dat) (hn : n ≤ 140737488355328) :
    Calls Try.prog 26 #[.slice A1 n c1, .slice A2 m c2] w (Yes w) := by
  have hmn : m = n := by
    have := congrArg List.length hEF
    rw [List.length_map, List.length_map, h1.1, h2.1] at this
    exact this.symm
  subst hmn
  have hEn := Lib.hid h1.1
  have hFn := Lib.hid h2.1
  have hEFh := Lib.hid hEF
  clear hEF
  go_enter Try.func26, Try.ntmps26
  go_wp2_with fail
  go_loopw [5, 13] (fun _ i wr => ∃ q : Nat, q ≤ m ∧ i = .int .i64 (q : Int) ∧ Below w.heap.size w wr) (fun _ i _ => m - (intOf i).toNat)
  case atStart => exact ⟨0, by omega, rfl, Below.refl _ _⟩
  case round =>
    obtain ⟨q, hq, rfl, hbr⟩ := hrel
    by_cases hlt : q < m
    · have g3 : decide ((q : Int) < (m : Int)) = true := by simp; omega
      have g4 : (q : Int) < (m : Int) := by omega
      have hqE : q < E.length := by rw [hEn.out]; exact hlt
      have hqF : q < F.length := by rw [hFn.out]; exact hlt
      obtain ⟨b, off, rfl, hbl, hcell⟩ := h1.2.2.2 (by omega)
      obtain ⟨b', off', rfl, hbl', hcell'⟩ := h2.2.2.2 (by omega)
      obtain ⟨k1, k2⟩ := cellsE_get E q hqE
      obtain ⟨j1, j2⟩ := cellsE_get F q hqF
      obtain ⟨e1, e2⟩ := map_dat_get hEFh.out q hqE hqF
      have x0 : wr.cell? ⟨b, off + q * 2, none⟩ = some (.int .i64 E[q].id) := by
        rw [Nat.mul_comm]
        exact (hbr.cell (p := ⟨b, off + 2 * q, none⟩) hbl).trans (hcell _ _ k1)
      have x1 : wr.cell? ⟨b, off + q * 2 + 1, none⟩ = some (.slice E[q].A E[q].d.length E[q].c) := by
        rw [Nat.mul_comm]
        exact (hbr.cell (p := ⟨b, off + (2 * q + 1), none⟩) hbl).trans (hcell _ _ k2)
      have y0 : wr.cell? ⟨b', off' + q * 2, none⟩ = some (.int .i64 F[q].id) := by
        rw [Nat.mul_comm]
        exact (hbr.cell (p := ⟨b', off' + 2 * q, none⟩) hbl').trans (hcell' _ _ j1)
      have y1 : wr.cell? ⟨b', off' + q * 2 + 1, none⟩ = some (.slice F[q].A F[q].d.length F[q].c) := by
        rw [Nat.mul_comm]
        exact (hbr.cell (p := ⟨b', off' + (2 * q + 1), none⟩) hbl').trans (hcell' _ _ j2)
      have r1 := (h1.2.2.1 _ (List.getElem_mem hqE)).2.below hbr
      have r2 := (h2.2.2.1 _ (List.getElem_mem hqF)).2.below hbr
      have r1 := r1.more hbr.size
      have r2 := r2.more hbr.size
      have hb1 : b < wr.heap.size := Nat.lt_of_lt_of_le hbl hbr.size
      have hb2 : b' < wr.heap.size := Nat.lt_of_lt_of_le hbl' hbr.size
      rw [← e1] at y0
      rw [← e2] at y1 r2
      clear k1 k2 j1 j2 hcell hcell' e1 e2
      revert x0 x1 y0 y1 r1 r2
      generalize E[q].id = id
      generalize E[q].A = XA
      generalize E[q].c = Xc
      generalize E[q].d = D
      generalize F[q].A = YA
      generalize F[q].c = Yc
      intro x0 x1 y0 y1 r1 r2
      go_upto_region 6 with (fail)
      refine wp_region_tbl [.val (.slice (some ⟨b, off, none⟩) m c1), .val (.int .i64 (q : Int)), .val (.pointer (some ⟨b, off + q * 2, none⟩)), .val (.pointer (some ⟨b, off + q * 2, none⟩)), .val (.int .i64 id), .val (.slice (some ⟨b', off', none⟩) m c2), .val (.int .i64 (q : Int)), .val (.pointer (some ⟨b', off' + q * 2, none⟩)), .val (.pointer (some ⟨b', off' + q * 2, none⟩)), .val (.int .i64 id), .val (.bool false), .val (.bool false), .val (.slice (some ⟨b, off, none⟩) m c1), .val (.int .i64 (q : Int)), .val (.pointer (some ⟨b, off + q * 2, none⟩)), .val (.pointer (some ⟨b, off + q * 2 + 1, none⟩)), .val (.slice XA D.length Xc), .val (.string ⟨D.toArray⟩), .val (.slice (some ⟨b', off', none⟩) m c2), .val (.int .i64 (q : Int)), .val (.pointer (some ⟨b', off' + q * 2, none⟩)), .val (.pointer (some ⟨b', off' + q * 2 + 1, none⟩)), .val (.slice YA D.length Yc), .val (.string ⟨D.toArray⟩), .val (.bool false), .val (.bool false)] (by kernel_rfl) (by kernel_rfl) (by kernel_rfl) (AllObl.all ⟨?_, ?_, ?_, ?_, ?_, ?_, ?_, ?_, ?_, ?_, ?_, ?_, ?_, ?_, ?_, ?_, ?_, ?_, ?_, ?_, ?_, ?_, ?_, ?_, ?_, ?_, trivial⟩) ?_
      · exact Obl.move trivial _ (Or.inl rfl) (by kernel_rfl)
      · exact Obl.move trivial _ (Or.inl rfl) (by kernel_rfl)
      · exact Obl.pure trivial (.pointer (some ⟨b, off + q * 2, none⟩)) (by kernel_rfl) (fun ev w hb hx => by
          have e16 : ev (.tmp 16) = .slice (some ⟨b, off, none⟩) m c1 := holds_val (hx (.tmp 16)) (by kernel_rfl)
          have e17 : ev (.tmp 17) = .int .i64 (q : Int) := holds_val (hx (.tmp 17)) (by kernel_rfl)
          simp [execOp, e16, e17, go_sem, g4])
      · exact Obl.pure trivial (.pointer (some ⟨b, off + q * 2, none⟩)) (by kernel_rfl) (fun ev w hb hx => by
          have e18 : ev (.tmp 18) = .pointer (some ⟨b, off + q * 2, none⟩) := holds_val (hx (.tmp 18)) (by kernel_rfl)
          simp [execOp, e18, go_sem])
      · exact Obl.pure trivial (.int .i64 id) (by kernel_rfl) (fun ev w hb hx => by
          have e19 : ev (.tmp 19) = .pointer (some ⟨b, off + q * 2, none⟩) := holds_val (hx (.tmp 19)) (by kernel_rfl)
          (have mm := (((drew_below _).trans hb).cell (p := ⟨b, off + q * 2, none⟩) hb1).trans x0; simp [execOp, e19, go_sem, mm]))
      · exact Obl.move trivial _ (Or.inl rfl) (by kernel_rfl)
      · exact Obl.move trivial _ (Or.inl rfl) (by kernel_rfl)
      · exact Obl.pure trivial (.pointer (some ⟨b', off' + q * 2, none⟩)) (by kernel_rfl) (fun ev w hb hx => by
          have e21 : ev (.tmp 21) = .slice (some ⟨b', off', none⟩) m c2 := holds_val (hx (.tmp 21)) (by kernel_rfl)
          have e22 : ev (.tmp 22) = .int .i64 (q : Int) := holds_val (hx (.tmp 22)) (by kernel_rfl)
          simp [execOp, e21, e22, go_sem, g4])
      · exact Obl.pure trivial (.pointer (some ⟨b', off' + q * 2, none⟩)) (by kernel_rfl) (fun ev w hb hx => by
          have e23 : ev (.tmp 23) = .pointer (some ⟨b', off' + q * 2, none⟩) := holds_val (hx (.tmp 23)) (by kernel_rfl)
          simp [execOp, e23, go_sem])
      · exact Obl.pure trivial (.int .i64 id) (by kernel_rfl) (fun ev w hb hx => by
          have e24 : ev (.tmp 24) = .pointer (some ⟨b', off' + q * 2, none⟩) := holds_val (hx (.tmp 24)) (by kernel_rfl)
          (have mm := (((drew_below _).trans hb).cell (p := ⟨b', off' + q * 2, none⟩) hb2).trans y0; simp [execOp, e24, go_sem, mm]))
      · exact Obl.bin trivial .neq _ (.tmp 20) (.tmp 25) _ rfl (.int .i64 id) (.int .i64 id) (.bool false) (by kernel_rfl) (by kernel_rfl) (fun w => by simp [eqGuard, go_sem]) (by kernel_rfl)
      · exact Obl.move trivial _ (Or.inl rfl) (by kernel_rfl)
      · exact Obl.move ⟨by kernel_rfl, by kernel_rfl, by kernel_rfl⟩ _ (Or.inl rfl) (by kernel_rfl)
      · exact Obl.move ⟨by kernel_rfl, by kernel_rfl, by kernel_rfl⟩ _ (Or.inl rfl) (by kernel_rfl)
      · exact Obl.pure ⟨by kernel_rfl, by kernel_rfl, by kernel_rfl⟩ (.pointer (some ⟨b, off + q * 2, none⟩)) (by kernel_rfl) (fun ev w hb hx => by
          have e28 : ev (.tmp 28) = .slice (some ⟨b, off, none⟩) m c1 := holds_val (hx (.tmp 28)) (by kernel_rfl)
          have e29 : ev (.tmp 29) = .int .i64 (q : Int) := holds_val (hx (.tmp 29)) (by kernel_rfl)
          simp [execOp, e28, e29, go_sem, g4])
      · exact Obl.pure ⟨by kernel_rfl, by kernel_rfl, by kernel_rfl⟩ (.pointer (some ⟨b, off + q * 2 + 1, none⟩)) (by kernel_rfl) (fun ev w hb hx => by
          have e30 : ev (.tmp 30) = .pointer (some ⟨b, off + q * 2, none⟩) := holds_val (hx (.tmp 30)) (by kernel_rfl)
          simp [execOp, e30, go_sem])
      · exact Obl.pure ⟨by kernel_rfl, by kernel_rfl, by kernel_rfl⟩ (.slice XA D.length Xc) (by kernel_rfl) (fun ev w hb hx => by
          have e31 : ev (.tmp 31) = .pointer (some ⟨b, off + q * 2 + 1, none⟩) := holds_val (hx (.tmp 31)) (by kernel_rfl)
          (have mm := (((drew_below _).trans hb).cell (p := ⟨b, off + q * 2 + 1, none⟩) hb1).trans x1; simp [execOp, e31, go_sem, mm]))
      · exact Obl.pure ⟨by kernel_rfl, by kernel_rfl, by kernel_rfl⟩ (.string ⟨D.toArray⟩) (by kernel_rfl) (fun ev w hb hx => by
          have e32 : ev (.tmp 32) = .slice XA D.length Xc := holds_val (hx (.tmp 32)) (by kernel_rfl)
          (have mm := (r1.on ((drew_below _).trans hb)).string (P := Try.prog) 26 5 9 Try.underlying26 Try.underlying5 Try.underlying9; simp only [execOp, e32, Sem.run_bind, mm]; rfl))
      · exact Obl.move ⟨by kernel_rfl, by kernel_rfl, by kernel_rfl⟩ _ (Or.inl rfl) (by kernel_rfl)
      · exact Obl.move ⟨by kernel_rfl, by kernel_rfl, by kernel_rfl⟩ _ (Or.inl rfl) (by kernel_rfl)
      · exact Obl.pure ⟨by kernel_rfl, by kernel_rfl, by kernel_rfl⟩ (.pointer (some ⟨b', off' + q * 2, none⟩)) (by kernel_rfl) (fun ev w hb hx => by
          have e34 : ev (.tmp 34) = .slice (some ⟨b', off', none⟩) m c2 := holds_val (hx (.tmp 34)) (by kernel_rfl)
          have e35 : ev (.tmp 35) = .int .i64 (q : Int) := holds_val (hx (.tmp 35)) (by kernel_rfl)
          simp [execOp, e34, e35, go_sem, g4])
      · exact Obl.pure ⟨by kernel_rfl, by kernel_rfl, by kernel_rfl⟩ (.pointer (some ⟨b', off' + q * 2 + 1, none⟩)) (by kernel_rfl) (fun ev w hb hx => by
          have e36 : ev (.tmp 36) = .pointer (some ⟨b', off' + q * 2, none⟩) := holds_val (hx (.tmp 36)) (by kernel_rfl)
          simp [execOp, e36, go_sem])
      · exact Obl.pure ⟨by kernel_rfl, by kernel_rfl, by kernel_rfl⟩ (.slice YA D.length Yc) (by kernel_rfl) (fun ev w hb hx => by
          have e37 : ev (.tmp 37) = .pointer (some ⟨b', off' + q * 2 + 1, none⟩) := holds_val (hx (.tmp 37)) (by kernel_rfl)
          (have mm := (((drew_below _).trans hb).cell (p := ⟨b', off' + q * 2 + 1, none⟩) hb2).trans y1; simp [execOp, e37, go_sem, mm]))
      · exact Obl.pure ⟨by kernel_rfl, by kernel_rfl, by kernel_rfl⟩ (.string ⟨D.toArray⟩) (by kernel_rfl) (fun ev w hb hx => by
          have e38 : ev (.tmp 38) = .slice YA D.length Yc := holds_val (hx (.tmp 38)) (by kernel_rfl)
          (have mm := (r2.on ((drew_below _).trans hb)).string (P := Try.prog) 26 5 9 Try.underlying26 Try.underlying5 Try.underlying9; simp only [execOp, e38, Sem.run_bind, mm]; rfl))
      · exact Obl.bin ⟨by kernel_rfl, by kernel_rfl, by kernel_rfl⟩ .neq _ (.tmp 33) (.tmp 39) _ rfl (.string ⟨D.toArray⟩) (.string ⟨D.toArray⟩) (.bool false) (by kernel_rfl) (by kernel_rfl) (fun w => by simp [eqGuard, go_sem]) (by kernel_rfl)
      · exact Obl.pick trivial _ _ _ rfl false (by kernel_rfl) (by kernel_rfl)
      intro a WR hb hsz hdf hold hv
      have ha := act_puts [16, 17, 18, 19, 20, 21, 22, 23, 24, 25, 26, 27, 28, 29, 30, 31, 32, 33, 34, 35, 36, 37, 38, 39, 40, 41] (by kernel_rfl) hsz hdf hold
      simp only [putAll] at ha
      have z41 : a.tmps.getD 41 undef = .bool false := holds_val (hv 25 41 (by kernel_rfl)) (by kernel_rfl)
      rw [z41] at ha
      generalize a.tmps.getD 16 undef = x16 at ha
      generalize a.tmps.getD 17 undef = x17 at ha
      generalize a.tmps.getD 18 undef = x18 at ha
      generalize a.tmps.getD 19 undef = x19 at ha
      generalize a.tmps.getD 20 undef = x20 at ha
      generalize a.tmps.getD 21 undef = x21 at ha
      generalize a.tmps.getD 22 undef = x22 at ha
      generalize a.tmps.getD 23 undef = x23 at ha
      generalize a.tmps.getD 24 undef = x24 at ha
      generalize a.tmps.getD 25 undef = x25 at ha
      generalize a.tmps.getD 26 undef = x26 at ha
      generalize a.tmps.getD 27 undef = x27 at ha
      generalize a.tmps.getD 28 undef = x28 at ha
      generalize a.tmps.getD 29 undef = x29 at ha
      generalize a.tmps.getD 30 undef = x30 at ha
      generalize a.tmps.getD 31 undef = x31 at ha
      generalize a.tmps.getD 32 undef = x32 at ha
      generalize a.tmps.getD 33 undef = x33 at ha
      generalize a.tmps.getD 34 undef = x34 at ha
      generalize a.tmps.getD 35 undef = x35 at ha
      generalize a.tmps.getD 36 undef = x36 at ha
      generalize a.tmps.getD 37 undef = x37 at ha
      generalize a.tmps.getD 38 undef = x38 at ha
      generalize a.tmps.getD 39 undef = x39 at ha
      generalize a.tmps.getD 40 undef = x40 at ha
      clear hv hold hsz hdf z41
      subst ha
      simp only [Act.put, List.setIfInBounds_toArray, List.set_cons_succ, List.set_cons_zero]
      have hbf := hbr.trans (((drew_below _).trans hb).mono hbr.size)
      clear hb x0 x1 y0 y1 r1 r2 hb1 hb2
      go_wp2_with fail
      go_roundw
      case rel => exact ⟨q + 1, by omega, by go_num, hbf⟩
      case measure => simp [intOf]; omega
    · have g3 : decide ((q : Int) < (m : Int)) = false := by simp; omega
      go_wp2_with fail
      go_ret
      exact ⟨rfl, hbr⟩
set_option maxHeartbeats 2000000 in
theorem law4_reads (prof : Nat) (A : Option Addr) (n c : Nat) (l : List UInt8) (w : World) (h : R8 w w.heap.size A n c l) (hn : n ≤ 4000000) :
    Calls Try.prog 22 #[.int .u16 (prof : Int), .slice A n c] w (Yes w) := by
  have q1 := fun W hW => ext_read prof A n c l W (h.on hW) hn
  have q2 := fun W hW => ref_readElems prof A n c l W (h.on hW) hn
  have q3 := fun W hW => ext_rid prof A n c l W (h.on hW) hn
  have q4 := fun W hW => ref_ridp prof A n c l W (h.on hW) hn
  unfold pExt at q3 q4
  go_enter Try.func22, Try.ntmps22
  go_wp2_with fail
  refine (q1 _ (Below.refl _ _)).mono ?_
  rintro e w1 ⟨A1, c1, E, rfl, hE, hRE, b1⟩
  clear q1
  go_wp2_with fail
  refine (q2 _ b1).mono ?_
  rintro e w2 ⟨A2, c2, F, rfl, hF, hRF, b2⟩
  have hRE := hRE.on b2
  have b2 := b1.trans (b2.mono b1.size)
  clear q2 b1
  go_wp2_with fail
  refine (q3 _ b2).mono ?_
  rintro e w3 ⟨rfl, b3⟩
  have hRE := hRE.on b3
  have hRF := hRF.on b3
  have b3 := b2.trans (b3.mono b2.size)
  clear q3 b2
  go_wp2_with fail
  refine (q4 _ b3).mono ?_
  rintro e w4 ⟨rfl, b4⟩
  have hRE := hRE.on b4
  have hRF := hRF.on b4
  have b4 := b3.trans (b4.mono b3.size)
  clear q4 b3
  have hel := elems_yes A1 A2 E.length c1 F.length c2 E F w4 hRE hRF (hE.trans hF.symm) (by have := (els_small hE).1; omega)
  clear hRE hRF hE hF
  generalize errR prof l = K
  generalize ridS prof l = S
  generalize ridK prof l = B
  go_wp2_with fail
  refine hel.mono ?_
  rintro e w5 ⟨rfl, b5⟩
  have b5 := b4.trans (b5.mono b4.size)
  clear b4 hel
  go_wp2_with fail
  go_ret
  exact ⟨by simp, b5⟩
theorem elemsB_len (prof : Nat) (E : List El) : (elemsB prof E).length ≤ 2200 := by
  unfold elemsB
  by_cases h : elemsErr prof E = 0
  · rw [if_pos h]
    unfold elemsErr at h
    by_cases h1 : prof ≠ 48862 ∧ prof ≠ 4096
    · rw [if_pos h1] at h; omega
    rw [if_neg h1] at h
    by_cases h2 : 8 < E.length
    · rw [if_pos h2] at h; omega
    rw [if_neg h2] at h
    by_cases h3 : E.any (badE (isOne prof)) = true
    · rw [if_pos h3] at h; omega
    have h4 := elBs_len (isOne prof) E fun e he => by
      have h5 : E.any (badE (isOne prof)) = false := by simpa using h3
      rw [List.any_eq_false] at h5
      simpa using h5 e he
    unfold padL
    have h6 := padN_lt (elBs (isOne prof) E).length 4
    rw [List.length_append, List.length_replicate]
    omega
  · rw [if_neg h]
    simp
set_option maxHeartbeats 2000000 in
theorem law4_same (prof : Nat) (A : Option Addr) (n c : Nat) (E : List El) (id : Int) (w : World) (hp : prof < 65536) (h : RE w w.heap.size A n c E) (hn : n ≤ 140737488355328) (hdl : ∀ e ∈ E, e.d.length ≤ 140737488351232) :
    Calls Try.prog 20 #[.int .u16 (prof : Int), .slice A n c, .int .i64 id] w (Yes w) := by
  have hdl' : ∀ e ∈ E, e.d.length ≤ 140737488355328 := fun e he => by have := hdl e he; omega
  have q1 := fun W hW => ext_bytes prof A n c E W (h.on hW) hn hdl'
  have q2 := fun W hW => ref_elems prof A n c E W hp (h.on hW) hn hdl'
  have q3 := fun W hW => ext_find A n c E id W (h.on hW) hn hdl
  have q4 := fun W hW => ref_find A n c E id W (h.on hW) hn hdl
  have hBl := elemsB_len prof E
  generalize fdB (E.map El.dat) id = D at q3 q4
  generalize fdK (E.map El.dat) id = K at q3 q4
  go_enter Try.func20, Try.ntmps20
  go_wp2_with fail
  refine (q1 _ (Below.refl _ _)).mono ?_
  rintro e w1 ⟨A1, c1, rfl, r1, b1⟩
  clear q1
  go_wp2_with fail
  refine (q2 _ b1).mono ?_
  rintro e w2 ⟨A2, c2, rfl, r2, b2⟩
  have r1 := r1.on b2
  have b2 := b1.trans (b2.mono b1.size)
  clear q2 b1 h hdl hdl'
  generalize elemsErr prof E = X
  generalize elemsB prof E = B at r1 r2 hBl ⊢
  go_wp2_with fail
  refine (q3 _ b2).mono ?_
  rintro e w3 ⟨A3, m3, c3, rfl, r3, b3⟩
  have r1 := r1.on b3
  have r2 := r2.on b3
  have b3 := b2.trans (b3.mono b2.size)
  clear q3 b2
  go_wp2_with fail
  refine (q4 _ b3).mono ?_
  rintro e w4 ⟨A4, m4, c4, rfl, r4, b4⟩
  have r1 := r1.on b4
  have r2 := r2.on b4
  have r3 := r3.on b4
  have b4 := b3.trans (b4.mono b3.size)
  clear q4 b3
  have s1 := r1.string (P := Try.prog) 26 5 9 Try.underlying26 Try.underlying5 Try.underlying9
  have s2 := r2.string (P := Try.prog) 26 5 9 Try.underlying26 Try.underlying5 Try.underlying9
  have s3 := r3.string (P := Try.prog) 26 5 9 Try.underlying26 Try.underlying5 Try.underlying9
  have s4 := r4.string (P := Try.prog) 26 5 9 Try.underlying26 Try.underlying5 Try.underlying9
  have hrd := law4_reads prof A2 B.length c2 B w4 r2 (by omega)
  clear r1 r2 r3 r4
  go_wp2_with fail
  refine hrd.mono ?_
  rintro e w5 ⟨rfl, b5⟩
  have b5 := b4.trans (b5.mono b4.size)
  clear b4 hrd
  go_wp2_with fail
  go_ret
  exact ⟨by simp, b5⟩
end Go.Proofs.Ytpcdmcaojgpfoaa.RP
