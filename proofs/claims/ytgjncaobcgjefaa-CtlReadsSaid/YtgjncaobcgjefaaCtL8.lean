/- Contract: limelightref8.Layers, of right layers. -/
import Derived.Test.YtgjncaobcgjefaaCtU
import Derived.Test.YtgjncaobcgjefaaCtS
import Derived.Test.YtgjncaobcgjefaaRidD
import Derived.Test.YtgjncaobcgjefaaRegP
namespace Go.Proofs.Ytgjncaobcgjefaa.RP
open Go.RowKit
set_option linter.unusedVariables false
set_option linter.unusedSimpArgs false
set_option maxRecDepth 20000

theorem rises_at : ∀ {l : List Lay}, rises l = true → ∀ (i : Nat) (h : i + 1 < l.length), l[i].height < l[i + 1].height
  | [], _, i, h => by simp at h
  | [_], _, i, h => by simp at h
  | x :: y :: r, hr, 0, _ => by
    simp only [rises, Bool.and_eq_true, decide_eq_true_eq] at hr
    exact hr.1
  | x :: y :: r, hr, i + 1, h => by
    simp only [rises, Bool.and_eq_true, decide_eq_true_eq] at hr
    exact rises_at hr.2 i (by simpa using h)
theorem pairs_at : ∀ {l : List Lay}, pairs l = true → ∀ (i j : Nat) (hi : i < j) (hj : j < l.length), l[j].ssrc ≠ l[i].ssrc ∧ foldB l[j].rid ≠ foldB l[i].rid
  | [], _, i, j, _, h => by simp at h
  | x :: r, hp, 0, j + 1, _, h => by
    simp only [pairs, Bool.and_eq_true] at hp
    have hjr : j < r.length := by simpa using h
    have := List.all_eq_true.1 hp.1 r[j] (List.getElem_mem hjr)
    simp only [Bool.and_eq_true, decide_eq_true_eq] at this
    simpa using this
  | x :: r, hp, i + 1, j + 1, hi, h => by
    simp only [pairs, Bool.and_eq_true] at hp
    simpa using pairs_at hp.2 i j (by omega) (by simpa using h)
theorem ans_true {b : Bool} {w w' : World} {e : Ending} (hb : b = true) (h : Ans (.bool b) w e w') : e = .returned (.bool true) ∧ Below w.heap.size w w' := by
  subst hb
  exact h
set_option maxHeartbeats 8000000 in
theorem ref8_layers (l : List Lay) (A : Option Addr) (n c : Nat) (w : World) (h : RL w w.heap.size A n c l) (hr : rightL l = true) : Calls Try.prog 47 #[.slice A n c] w (Ans (.int .i64 0) w) := by
  have hr' := rightL_of hr
  have hln := h.1
  have hn1 : 1 ≤ n := by omega
  have hn3 : n ≤ 3 := by omega
  have HOK := Lib.hid hr'.2.1
  have HRI := Lib.hid (rises_at hr'.2.2.1)
  have HPA := Lib.hid (pairs_at hr'.2.2.2)
  have HLN := Lib.hid hln
  clear hr hr' hln
  go_enter Try.func47, Try.ntmps47
  have t1 : decide ((n : Int) < 1) = false := by simp; omega
  have t2 : decide ((3 : Int) < (n : Int)) = false := by simp; omega
  go_wp2_with fail
  clear t1 t2
  go_loopw [3, 4, 5, 16] (fun _ _ _ i wr => ∃ q : Nat, q ≤ n ∧ i = .int .i64 (q : Int) ∧ Below w.heap.size w wr) (fun _ _ _ i _ => n - (intOf i).toNat)
  case atStart => exact ⟨0, by omega, rfl, Below.refl _ _⟩
  obtain ⟨q, hq, rfl, hbr⟩ := hrel
  by_cases hlt : q < n
  · have g3 : decide ((q : Int) < (n : Int)) = true := by simp; omega
    have hql : q < l.length := by rw [HLN.out]; exact hlt
    obtain ⟨b, off, rfl, hbl, k0, k1, k2⟩ := (h.below hbr).at hql
    have hs := hbr.size
    have hg0 : b < wr.heap.size := by omega
    have hoq := okL_of (HOK.out _ (List.getElem_mem hql))
    have hin := h.2.1 _ (List.getElem_mem hql)
    obtain ⟨X0, hX0⟩ : ∃ X0, X0 = l[q].rid := ⟨_, rfl⟩
    obtain ⟨X1, hX1⟩ : ∃ X1, X1 = l[q].ssrc := ⟨_, rfl⟩
    obtain ⟨X2, hX2⟩ : ∃ X2 : Nat, (X2 : Int) = l[q].height := ⟨l[q].height.toNat, by omega⟩
    rw [← hX0] at k0 hoq
    rw [← hX1] at k1
    rw [← hX2] at k2 hoq
    have HR := Lib.hid hoq.1
    have hx8 := (right_size hoq.1).2
    have hxh := hoq.2
    have EX := Lib.hid (show X0 = l[q].rid ∧ X1 = l[q].ssrc ∧ (X2 : Int) = l[q].height from ⟨hX0, hX1, hX2⟩)
    clear hX0 hX1 hX2 hoq hin
    go_upto_region 6 with (fail)
    have b7 := hbr.trans ((below_alloc wr (.cells #[.string X0, .int .u32 (X1 : Int), .int .i64 (X2 : Int)] 46)).mono hs)
    have hBk := Blk.new wr 46 #[.string X0, .int .u32 (X1 : Int), .int .i64 (X2 : Int)]
    have hw7 : w.heap.size ≤ (wr.alloc (.cells #[.string X0, .int .u32 (X1 : Int), .int .i64 (X2 : Int)] 46)).heap.size := b7.size
    have hbl7 : b < (wr.alloc (.cells #[.string X0, .int .u32 (X1 : Int), .int .i64 (X2 : Int)] 46)).heap.size := by simp; omega
    obtain ⟨g, hg⟩ : ∃ g, g = wr.heap.size := ⟨_, rfl⟩
    have hsg : w.heap.size ≤ g := by omega
    generalize wr.alloc (.cells #[.string X0, .int .u32 (X1 : Int), .int .i64 (X2 : Int)] 46) = W7 at b7 hBk hw7 hbl7 ⊢
    rw [← hg] at hBk ⊢
    clear hg hbr k0 k1 k2 hs hg0
    obtain ⟨⟨c0, c1, c2⟩, _⟩ := blk3 hBk
    have hgl := hBk.lt
    rcases Nat.eq_zero_or_pos q with hq0 | hq0
    · have hq0' : ¬ (0 : Int) < (q : Int) := by omega
      refine wp_region_tbl [.val (.pointer (some ⟨g, 0, none⟩)), .val (.string X0), .val (.bool true), .val (.bool false), .val (.bool false), .val (.pointer (some ⟨g, 2, none⟩)), .val (.int .i64 (X2 : Int)), .val (.bool false), .val (.bool false), .val (.bool false), .val (.pointer (some ⟨g, 2, none⟩)), .val (.int .i64 (X2 : Int)), .val (.bool false), .val (.bool false), .val (.bool false), .val (.int .i64 (q : Int)), .val (.bool false), .val (.bool false), .val (undef), .val (undef), .val (undef), .val (undef), .val (undef), .val (undef), .val (undef), .val (undef), .val (undef), .val (.bool false), .val (.bool false)] (by kernel_rfl) (by kernel_rfl) (by kernel_rfl) (AllObl.all ⟨?_, ?_, ?_, ?_, ?_, ?_, ?_, ?_, ?_, ?_, ?_, ?_, ?_, ?_, ?_, ?_, ?_, ?_, ?_, ?_, ?_, ?_, ?_, ?_, ?_, ?_, ?_, ?_, ?_, trivial⟩) ?_
      · exact Obl.pure trivial (.pointer (some ⟨g, 0, none⟩)) (by kernel_rfl) (fun ev w hb hx => by
          have e4 : ev (.tmp 4) = .pointer (some ⟨g, 0, none⟩) := holds_val (hx (.tmp 4)) (by kernel_rfl)
          simp [execOp, e4, go_sem])
      · exact Obl.pure trivial (.string X0) (by kernel_rfl) (fun ev w hb hx => by
          have e21 : ev (.tmp 21) = .pointer (some ⟨g, 0, none⟩) := holds_val (hx (.tmp 21)) (by kernel_rfl)
          (have m0 := (((drew_below _).trans hb).cell (p := ⟨g, 0, none⟩) hgl).trans c0; simp [execOp, e21, go_sem, m0]))
      · exact Obl.call trivial 57 #[.tmp 22] _ rfl Try.f57 Try.func57 (by kernel_rfl) (by kernel_rfl) (fun ev w hb hx => by
          have e22 : ev (.tmp 22) = .string X0 := holds_val (hx (.tmp 22)) (by kernel_rfl)
          simp only [List.map_toArray, List.map_cons, List.map_nil, e22]
          exact (((ref_rid X0 w (by omega)).mono fun e w' h => ans_true HR.out h)).mono fun _ _ hh => Val.holds (by kernel_rfl) hh)
      · exact Obl.un trivial .not _ (.tmp 23) rfl (.bool true) (.bool false) (by kernel_rfl) (fun w => by simp [go_sem]) (by kernel_rfl)
      · exact Obl.move trivial _ (Or.inl rfl) (by kernel_rfl)
      · exact Obl.pure ⟨by kernel_rfl, by kernel_rfl, by kernel_rfl⟩ (.pointer (some ⟨g, 2, none⟩)) (by kernel_rfl) (fun ev w hb hx => by
          have e4 : ev (.tmp 4) = .pointer (some ⟨g, 0, none⟩) := holds_val (hx (.tmp 4)) (by kernel_rfl)
          simp [execOp, e4, go_sem])
      · exact Obl.pure ⟨by kernel_rfl, by kernel_rfl, by kernel_rfl⟩ (.int .i64 (X2 : Int)) (by kernel_rfl) (fun ev w hb hx => by
          have e26 : ev (.tmp 26) = .pointer (some ⟨g, 2, none⟩) := holds_val (hx (.tmp 26)) (by kernel_rfl)
          (have m2 := (((drew_below _).trans hb).cell (p := ⟨g, 2, none⟩) hgl).trans c2; simp [execOp, e26, go_sem, m2]))
      · exact Obl.bin ⟨by kernel_rfl, by kernel_rfl, by kernel_rfl⟩ .lss _ (.tmp 27) (.const (.int .i64 1)) _ rfl (.int .i64 (X2 : Int)) (.int .i64 1) (.bool false) (by kernel_rfl) (by kernel_rfl) (fun w => by simp [eqGuard, go_sem]; try omega) (by kernel_rfl)
      · exact Obl.pick trivial _ _ _ rfl false (by kernel_rfl) (by kernel_rfl)
      · exact Obl.move trivial _ (Or.inl rfl) (by kernel_rfl)
      · exact Obl.pure ⟨by kernel_rfl, by kernel_rfl, by kernel_rfl⟩ (.pointer (some ⟨g, 2, none⟩)) (by kernel_rfl) (fun ev w hb hx => by
          have e4 : ev (.tmp 4) = .pointer (some ⟨g, 0, none⟩) := holds_val (hx (.tmp 4)) (by kernel_rfl)
          simp [execOp, e4, go_sem])
      · exact Obl.pure ⟨by kernel_rfl, by kernel_rfl, by kernel_rfl⟩ (.int .i64 (X2 : Int)) (by kernel_rfl) (fun ev w hb hx => by
          have e31 : ev (.tmp 31) = .pointer (some ⟨g, 2, none⟩) := holds_val (hx (.tmp 31)) (by kernel_rfl)
          (have m2 := (((drew_below _).trans hb).cell (p := ⟨g, 2, none⟩) hgl).trans c2; simp [execOp, e31, go_sem, m2]))
      · exact Obl.bin ⟨by kernel_rfl, by kernel_rfl, by kernel_rfl⟩ .gtr _ (.tmp 32) (.const (.int .i64 8192)) _ rfl (.int .i64 (X2 : Int)) (.int .i64 8192) (.bool false) (by kernel_rfl) (by kernel_rfl) (fun w => by simp [eqGuard, go_sem]; try omega) (by kernel_rfl)
      · exact Obl.pick trivial _ _ _ rfl false (by kernel_rfl) (by kernel_rfl)
      · exact Obl.move trivial _ (Or.inl rfl) (by kernel_rfl)
      · exact Obl.move ⟨by kernel_rfl, by kernel_rfl, by kernel_rfl⟩ _ (Or.inl rfl) (by kernel_rfl)
      · exact Obl.bin ⟨by kernel_rfl, by kernel_rfl, by kernel_rfl⟩ .gtr _ (.tmp 36) (.const (.int .i64 0)) _ rfl (.int .i64 (q : Int)) (.int .i64 0) (.bool false) (by kernel_rfl) (by kernel_rfl) (fun w => by simp [eqGuard, go_sem]; try omega) (by kernel_rfl)
      · exact Obl.move ⟨by kernel_rfl, by kernel_rfl, by kernel_rfl⟩ _ (Or.inl rfl) (by kernel_rfl)
      · exact Obl.skip 17 true (.bool false) rfl (by kernel_rfl) (by kernel_rfl) (by kernel_rfl) (by kernel_rfl) (fun w => holds_undef (by kernel_rfl))
      · exact Obl.skip 17 true (.bool false) rfl (by kernel_rfl) (by kernel_rfl) (by kernel_rfl) (by kernel_rfl) (fun w => holds_undef (by kernel_rfl))
      · exact Obl.skip 17 true (.bool false) rfl (by kernel_rfl) (by kernel_rfl) (by kernel_rfl) (by kernel_rfl) (fun w => holds_undef (by kernel_rfl))
      · exact Obl.skip 17 true (.bool false) rfl (by kernel_rfl) (by kernel_rfl) (by kernel_rfl) (by kernel_rfl) (fun w => holds_undef (by kernel_rfl))
      · exact Obl.skip 17 true (.bool false) rfl (by kernel_rfl) (by kernel_rfl) (by kernel_rfl) (by kernel_rfl) (fun w => holds_undef (by kernel_rfl))
      · exact Obl.skip 17 true (.bool false) rfl (by kernel_rfl) (by kernel_rfl) (by kernel_rfl) (by kernel_rfl) (fun w => holds_undef (by kernel_rfl))
      · exact Obl.skip 17 true (.bool false) rfl (by kernel_rfl) (by kernel_rfl) (by kernel_rfl) (by kernel_rfl) (fun w => holds_undef (by kernel_rfl))
      · exact Obl.skip 17 true (.bool false) rfl (by kernel_rfl) (by kernel_rfl) (by kernel_rfl) (by kernel_rfl) (fun w => holds_undef (by kernel_rfl))
      · exact Obl.skip 17 true (.bool false) rfl (by kernel_rfl) (by kernel_rfl) (by kernel_rfl) (by kernel_rfl) (fun w => holds_undef (by kernel_rfl))
      · exact Obl.pick ⟨by kernel_rfl, by kernel_rfl, by kernel_rfl⟩ _ _ _ rfl false (by kernel_rfl) (by kernel_rfl)
      · exact Obl.pick trivial _ _ _ rfl false (by kernel_rfl) (by kernel_rfl)
      intro a WR hb hsz hdf hold hv
      have ha := act_puts [21, 22, 23, 24, 25, 26, 27, 28, 29, 30, 31, 32, 33, 34, 35, 36, 37, 38, 39, 40, 41, 42, 43, 44, 45, 46, 47, 48, 49] (by kernel_rfl) hsz hdf hold
      simp only [putAll] at ha
      have z49 : a.tmps.getD 49 undef = .bool false := holds_val (hv 28 49 (by kernel_rfl)) (by kernel_rfl)
      rw [z49] at ha
      generalize a.tmps.getD 21 undef = x21 at ha
      generalize a.tmps.getD 22 undef = x22 at ha
      generalize a.tmps.getD 23 undef = x23 at ha
      generalize a.tmps.getD 24 undef = x24 at ha
      generalize a.tmps.getD 25 undef = x25 at ha
      generalize a.tmps.getD 26 undef = x26 at ha
      generalize a.tmps.getD 27 undef = x27 at ha
      generalize a.tmps.getD 28 undef = x28 at ha
      generalize a.tmps.getD 29 undef = x29 at ha
      generalize a.tmps.getD 30 undef = x30 at ha
      generalize a.tmps.getD 31 undef = x31 at ha
      generalize a.tmps.getD 32 undef = x32 at ha
      generalize a.tmps.getD 33 undef = x33 at ha
      generalize a.tmps.getD 34 undef = x34 at ha
      generalize a.tmps.getD 35 undef = x35 at ha
      generalize a.tmps.getD 36 undef = x36 at ha
      generalize a.tmps.getD 37 undef = x37 at ha
      generalize a.tmps.getD 38 undef = x38 at ha
      generalize a.tmps.getD 39 undef = x39 at ha
      generalize a.tmps.getD 40 undef = x40 at ha
      generalize a.tmps.getD 41 undef = x41 at ha
      generalize a.tmps.getD 42 undef = x42 at ha
      generalize a.tmps.getD 43 undef = x43 at ha
      generalize a.tmps.getD 44 undef = x44 at ha
      generalize a.tmps.getD 45 undef = x45 at ha
      generalize a.tmps.getD 46 undef = x46 at ha
      generalize a.tmps.getD 47 undef = x47 at ha
      generalize a.tmps.getD 48 undef = x48 at ha
      clear hv hold hsz hdf z49
      subst ha
      simp only [Act.put, List.setIfInBounds_toArray, List.set_cons_succ, List.set_cons_zero]
      have hb7 := b7.trans (((drew_below W7).trans hb).mono hw7)
      obtain ⟨⟨c0, c1, c2⟩, _⟩ := blk3 (hBk.below ((drew_below W7).trans hb) hgl)
      have hgl := Nat.lt_of_lt_of_le hgl ((drew_below W7).trans hb).size
      have hwg' : w.heap.size ≤ WR.heap.size := hb7.size
      clear hb hBk b7 hw7
      go_wp2_with fail
      go_loopw [5] (fun k wk => ∃ j : Nat, j ≤ q ∧ k = .int .i64 (j : Int) ∧ Below WR.heap.size WR wk) (fun k _ => q - (intOf k).toNat)
      case atStart => exact ⟨0, by omega, rfl, Below.refl _ _⟩
      obtain ⟨j, hj, rfl, hbk⟩ := hrel
      by_cases hjq : j < q
      · exact absurd hjq (by omega)
      · have g4 : ¬ (j : Int) < (q : Int) := by omega
        have hbe := hb7.trans (hbk.mono hwg')
        clear hb7 hbk h c0 c1 c2
        go_wp2_with fail
        go_roundw
        case rel => exact ⟨q + 1, by omega, by go_num, hbe⟩
        case measure => simp [intOf]; omega
    · obtain ⟨p, hp⟩ : ∃ p : Nat, q = p + 1 := ⟨q - 1, by omega⟩
      have hpl : p + 1 < l.length := by rw [← hp]; exact hql
      have hri := HRI.out p hpl
      have hpn : p < n := by omega
      have HP1 := Lib.hid (show (q : Int) - 1 = (p : Int) by omega)
      obtain ⟨b', off', e', hbl', p0, p1, p2⟩ := (h.below b7).at (q := p) (by omega)
      cases e'
      have hY2 := (okL_of (HOK.out _ (List.getElem_mem (show p < l.length by omega)))).2
      obtain ⟨Y2, hY⟩ : ∃ Y2 : Nat, (Y2 : Int) = l[p].height := ⟨l[p].height.toNat, by omega⟩
      have hYX : Y2 < X2 := by
        have h1 := EX.out.2.2
        have h2 : l[p + 1].height = l[q].height := by simp only [hp]
        omega
      rw [← hY] at p2
      clear hri hY hY2 p0 p1
      refine wp_region_tbl [.val (.pointer (some ⟨g, 0, none⟩)), .val (.string X0), .val (.bool true), .val (.bool false), .val (.bool false), .val (.pointer (some ⟨g, 2, none⟩)), .val (.int .i64 (X2 : Int)), .val (.bool false), .val (.bool false), .val (.bool false), .val (.pointer (some ⟨g, 2, none⟩)), .val (.int .i64 (X2 : Int)), .val (.bool false), .val (.bool false), .val (.bool false), .val (.int .i64 (q : Int)), .val (.bool true), .val (.bool true), .val (.pointer (some ⟨g, 2, none⟩)), .val (.int .i64 (X2 : Int)), .val (.slice (some ⟨b, off, none⟩) n c), .val (.int .i64 (q : Int)), .val (.int .i64 (p : Int)), .val (.pointer (some ⟨b, off + p * 3, none⟩)), .val (.pointer (some ⟨b, off + p * 3 + 2, none⟩)), .val (.int .i64 (Y2 : Int)), .val (.bool false), .val (.bool false), .val (.bool false)] (by kernel_rfl) (by kernel_rfl) (by kernel_rfl) (AllObl.all ⟨?_, ?_, ?_, ?_, ?_, ?_, ?_, ?_, ?_, ?_, ?_, ?_, ?_, ?_, ?_, ?_, ?_, ?_, ?_, ?_, ?_, ?_, ?_, ?_, ?_, ?_, ?_, ?_, ?_, trivial⟩) ?_
      · exact Obl.pure trivial (.pointer (some ⟨g, 0, none⟩)) (by kernel_rfl) (fun ev w hb hx => by
          have e4 : ev (.tmp 4) = .pointer (some ⟨g, 0, none⟩) := holds_val (hx (.tmp 4)) (by kernel_rfl)
          simp [execOp, e4, go_sem])
      · exact Obl.pure trivial (.string X0) (by kernel_rfl) (fun ev w hb hx => by
          have e21 : ev (.tmp 21) = .pointer (some ⟨g, 0, none⟩) := holds_val (hx (.tmp 21)) (by kernel_rfl)
          (have m0 := (((drew_below _).trans hb).cell (p := ⟨g, 0, none⟩) hgl).trans c0; simp [execOp, e21, go_sem, m0]))
      · exact Obl.call trivial 57 #[.tmp 22] _ rfl Try.f57 Try.func57 (by kernel_rfl) (by kernel_rfl) (fun ev w hb hx => by
          have e22 : ev (.tmp 22) = .string X0 := holds_val (hx (.tmp 22)) (by kernel_rfl)
          simp only [List.map_toArray, List.map_cons, List.map_nil, e22]
          exact (((ref_rid X0 w (by omega)).mono fun e w' h => ans_true HR.out h)).mono fun _ _ hh => Val.holds (by kernel_rfl) hh)
      · exact Obl.un trivial .not _ (.tmp 23) rfl (.bool true) (.bool false) (by kernel_rfl) (fun w => by simp [go_sem]) (by kernel_rfl)
      · exact Obl.move trivial _ (Or.inl rfl) (by kernel_rfl)
      · exact Obl.pure ⟨by kernel_rfl, by kernel_rfl, by kernel_rfl⟩ (.pointer (some ⟨g, 2, none⟩)) (by kernel_rfl) (fun ev w hb hx => by
          have e4 : ev (.tmp 4) = .pointer (some ⟨g, 0, none⟩) := holds_val (hx (.tmp 4)) (by kernel_rfl)
          simp [execOp, e4, go_sem])
      · exact Obl.pure ⟨by kernel_rfl, by kernel_rfl, by kernel_rfl⟩ (.int .i64 (X2 : Int)) (by kernel_rfl) (fun ev w hb hx => by
          have e26 : ev (.tmp 26) = .pointer (some ⟨g, 2, none⟩) := holds_val (hx (.tmp 26)) (by kernel_rfl)
          (have m2 := (((drew_below _).trans hb).cell (p := ⟨g, 2, none⟩) hgl).trans c2; simp [execOp, e26, go_sem, m2]))
      · exact Obl.bin ⟨by kernel_rfl, by kernel_rfl, by kernel_rfl⟩ .lss _ (.tmp 27) (.const (.int .i64 1)) _ rfl (.int .i64 (X2 : Int)) (.int .i64 1) (.bool false) (by kernel_rfl) (by kernel_rfl) (fun w => by simp [eqGuard, go_sem]; try omega) (by kernel_rfl)
      · exact Obl.pick trivial _ _ _ rfl false (by kernel_rfl) (by kernel_rfl)
      · exact Obl.move trivial _ (Or.inl rfl) (by kernel_rfl)
      · exact Obl.pure ⟨by kernel_rfl, by kernel_rfl, by kernel_rfl⟩ (.pointer (some ⟨g, 2, none⟩)) (by kernel_rfl) (fun ev w hb hx => by
          have e4 : ev (.tmp 4) = .pointer (some ⟨g, 0, none⟩) := holds_val (hx (.tmp 4)) (by kernel_rfl)
          simp [execOp, e4, go_sem])
      · exact Obl.pure ⟨by kernel_rfl, by kernel_rfl, by kernel_rfl⟩ (.int .i64 (X2 : Int)) (by kernel_rfl) (fun ev w hb hx => by
          have e31 : ev (.tmp 31) = .pointer (some ⟨g, 2, none⟩) := holds_val (hx (.tmp 31)) (by kernel_rfl)
          (have m2 := (((drew_below _).trans hb).cell (p := ⟨g, 2, none⟩) hgl).trans c2; simp [execOp, e31, go_sem, m2]))
      · exact Obl.bin ⟨by kernel_rfl, by kernel_rfl, by kernel_rfl⟩ .gtr _ (.tmp 32) (.const (.int .i64 8192)) _ rfl (.int .i64 (X2 : Int)) (.int .i64 8192) (.bool false) (by kernel_rfl) (by kernel_rfl) (fun w => by simp [eqGuard, go_sem]; try omega) (by kernel_rfl)
      · exact Obl.pick trivial _ _ _ rfl false (by kernel_rfl) (by kernel_rfl)
      · exact Obl.move trivial _ (Or.inl rfl) (by kernel_rfl)
      · exact Obl.move ⟨by kernel_rfl, by kernel_rfl, by kernel_rfl⟩ _ (Or.inl rfl) (by kernel_rfl)
      · exact Obl.bin ⟨by kernel_rfl, by kernel_rfl, by kernel_rfl⟩ .gtr _ (.tmp 36) (.const (.int .i64 0)) _ rfl (.int .i64 (q : Int)) (.int .i64 0) (.bool true) (by kernel_rfl) (by kernel_rfl) (fun w => by simp [eqGuard, go_sem]; try omega) (by kernel_rfl)
      · exact Obl.move ⟨by kernel_rfl, by kernel_rfl, by kernel_rfl⟩ _ (Or.inl rfl) (by kernel_rfl)
      · exact Obl.pure ⟨by kernel_rfl, by kernel_rfl, by kernel_rfl⟩ (.pointer (some ⟨g, 2, none⟩)) (by kernel_rfl) (fun ev w hb hx => by
          have e4 : ev (.tmp 4) = .pointer (some ⟨g, 0, none⟩) := holds_val (hx (.tmp 4)) (by kernel_rfl)
          simp [execOp, e4, go_sem])
      · exact Obl.pure ⟨by kernel_rfl, by kernel_rfl, by kernel_rfl⟩ (.int .i64 (X2 : Int)) (by kernel_rfl) (fun ev w hb hx => by
          have e39 : ev (.tmp 39) = .pointer (some ⟨g, 2, none⟩) := holds_val (hx (.tmp 39)) (by kernel_rfl)
          (have m2 := (((drew_below _).trans hb).cell (p := ⟨g, 2, none⟩) hgl).trans c2; simp [execOp, e39, go_sem, m2]))
      · exact Obl.move ⟨by kernel_rfl, by kernel_rfl, by kernel_rfl⟩ _ (Or.inl rfl) (by kernel_rfl)
      · exact Obl.move ⟨by kernel_rfl, by kernel_rfl, by kernel_rfl⟩ _ (Or.inl rfl) (by kernel_rfl)
      · exact Obl.bin ⟨by kernel_rfl, by kernel_rfl, by kernel_rfl⟩ .sub _ (.tmp 42) (.const (.int .i64 1)) _ rfl (.int .i64 (q : Int)) (.int .i64 1) (.int .i64 (p : Int)) (by kernel_rfl) (by kernel_rfl) (fun w => by simp [eqGuard, go_sem, HP1.out]; try (simp [IntKind.wrap, IntKind.signed, IntKind.bits]; omega)) (by kernel_rfl)
      · exact Obl.pure ⟨by kernel_rfl, by kernel_rfl, by kernel_rfl⟩ (.pointer (some ⟨b, off + p * 3, none⟩)) (by kernel_rfl) (fun ev w hb hx => by
          have e41 : ev (.tmp 41) = .slice (some ⟨b, off, none⟩) n c := holds_val (hx (.tmp 41)) (by kernel_rfl)
          have e43 : ev (.tmp 43) = .int .i64 (p : Int) := holds_val (hx (.tmp 43)) (by kernel_rfl)
          simp [execOp, e41, e43, go_sem, hpn])
      · exact Obl.pure ⟨by kernel_rfl, by kernel_rfl, by kernel_rfl⟩ (.pointer (some ⟨b, off + p * 3 + 2, none⟩)) (by kernel_rfl) (fun ev w hb hx => by
          have e44 : ev (.tmp 44) = .pointer (some ⟨b, off + p * 3, none⟩) := holds_val (hx (.tmp 44)) (by kernel_rfl)
          simp [execOp, e44, go_sem])
      · exact Obl.pure ⟨by kernel_rfl, by kernel_rfl, by kernel_rfl⟩ (.int .i64 (Y2 : Int)) (by kernel_rfl) (fun ev w hb hx => by
          have e45 : ev (.tmp 45) = .pointer (some ⟨b, off + p * 3 + 2, none⟩) := holds_val (hx (.tmp 45)) (by kernel_rfl)
          (have mm := (((drew_below _).trans hb).cell (p := ⟨b, off + p * 3 + 2, none⟩) hbl7).trans p2; simp [execOp, e45, go_sem, mm]))
      · exact Obl.bin ⟨by kernel_rfl, by kernel_rfl, by kernel_rfl⟩ .leq _ (.tmp 40) (.tmp 46) _ rfl (.int .i64 (X2 : Int)) (.int .i64 (Y2 : Int)) (.bool false) (by kernel_rfl) (by kernel_rfl) (fun w => by simp [eqGuard, go_sem]; try omega) (by kernel_rfl)
      · exact Obl.pick ⟨by kernel_rfl, by kernel_rfl, by kernel_rfl⟩ _ _ _ rfl true (by kernel_rfl) (by kernel_rfl)
      · exact Obl.pick trivial _ _ _ rfl false (by kernel_rfl) (by kernel_rfl)
      intro a WR hb hsz hdf hold hv
      have ha := act_puts [21, 22, 23, 24, 25, 26, 27, 28, 29, 30, 31, 32, 33, 34, 35, 36, 37, 38, 39, 40, 41, 42, 43, 44, 45, 46, 47, 48, 49] (by kernel_rfl) hsz hdf hold
      simp only [putAll] at ha
      have z49 : a.tmps.getD 49 undef = .bool false := holds_val (hv 28 49 (by kernel_rfl)) (by kernel_rfl)
      rw [z49] at ha
      generalize a.tmps.getD 21 undef = x21 at ha
      generalize a.tmps.getD 22 undef = x22 at ha
      generalize a.tmps.getD 23 undef = x23 at ha
      generalize a.tmps.getD 24 undef = x24 at ha
      generalize a.tmps.getD 25 undef = x25 at ha
      generalize a.tmps.getD 26 undef = x26 at ha
      generalize a.tmps.getD 27 undef = x27 at ha
      generalize a.tmps.getD 28 undef = x28 at ha
      generalize a.tmps.getD 29 undef = x29 at ha
      generalize a.tmps.getD 30 undef = x30 at ha
      generalize a.tmps.getD 31 undef = x31 at ha
      generalize a.tmps.getD 32 undef = x32 at ha
      generalize a.tmps.getD 33 undef = x33 at ha
      generalize a.tmps.getD 34 undef = x34 at ha
      generalize a.tmps.getD 35 undef = x35 at ha
      generalize a.tmps.getD 36 undef = x36 at ha
      generalize a.tmps.getD 37 undef = x37 at ha
      generalize a.tmps.getD 38 undef = x38 at ha
      generalize a.tmps.getD 39 undef = x39 at ha
      generalize a.tmps.getD 40 undef = x40 at ha
      generalize a.tmps.getD 41 undef = x41 at ha
      generalize a.tmps.getD 42 undef = x42 at ha
      generalize a.tmps.getD 43 undef = x43 at ha
      generalize a.tmps.getD 44 undef = x44 at ha
      generalize a.tmps.getD 45 undef = x45 at ha
      generalize a.tmps.getD 46 undef = x46 at ha
      generalize a.tmps.getD 47 undef = x47 at ha
      generalize a.tmps.getD 48 undef = x48 at ha
      clear hv hold hsz hdf z49
      subst ha
      simp only [Act.put, List.setIfInBounds_toArray, List.set_cons_succ, List.set_cons_zero]
      clear p2
      have hb7 := b7.trans (((drew_below W7).trans hb).mono hw7)
      obtain ⟨⟨c0, c1, c2⟩, _⟩ := blk3 (hBk.below ((drew_below W7).trans hb) hgl)
      have hgl := Nat.lt_of_lt_of_le hgl ((drew_below W7).trans hb).size
      have hwg' : w.heap.size ≤ WR.heap.size := hb7.size
      clear hb hBk b7 hw7
      go_wp2_with fail
      go_loopw [5] (fun k wk => ∃ j : Nat, j ≤ q ∧ k = .int .i64 (j : Int) ∧ Below WR.heap.size WR wk) (fun k _ => q - (intOf k).toNat)
      case atStart => exact ⟨0, by omega, rfl, Below.refl _ _⟩
      obtain ⟨j, hj, rfl, hbk⟩ := hrel
      by_cases hjq : j < q
      · have g4 : decide ((j : Int) < (q : Int)) = true := by simp; omega
        have hjl : j < l.length := by have := HLN.out; omega
        have hjn : j < n := by omega
        have hjn' : decide ((j : Int) < (n : Int)) = true := by simp; omega
        obtain ⟨b', off', e', hbl', p0, p1, p2⟩ := (h.below (hb7.trans (hbk.mono hwg'))).at hjl
        cases e'
        have hap := HPA.out j q hjq (by have := HLN.out; omega)
        have hjr := (right_size (okL_of (HOK.out _ (List.getElem_mem hjl))).1).2
        obtain ⟨E0, E1, E2⟩ := EX.out
        rw [← E0, ← E1] at hap
        clear E0 E1 E2
        generalize l[j] = y at p0 p1 p2 hap hjr
        obtain ⟨Y0, Y1, Y2⟩ := y
        simp only at p0 p1 p2 hap hjr
        have hne1 := hap.1
        have HNE := Lib.hid (show ((foldB Y0).data.toList == (foldB X0).data.toList) = false by
          rw [beq_eq_false_iff_ne]
          intro e''
          exact hap.2 (ByteArray.ext (Array.ext' e'')).symm)
        clear hap p2
        obtain ⟨⟨c0, c1, c2⟩, _⟩ : (wr.cell? ⟨g, 0, none⟩ = some (.string X0) ∧ wr.cell? ⟨g, 1, none⟩ = some (.int .u32 (X1 : Int)) ∧ wr.cell? ⟨g, 2, none⟩ = some (.int .i64 (X2 : Int))) ∧ True := ⟨⟨(hbk.cell (p := ⟨g, 0, none⟩) hgl).trans c0, (hbk.cell (p := ⟨g, 1, none⟩) hgl).trans c1, (hbk.cell (p := ⟨g, 2, none⟩) hgl).trans c2⟩, trivial⟩
        have hgl := Nat.lt_of_lt_of_le hgl hbk.size
        have hbl7 : b < wr.heap.size := by have := hbk.size; omega
        go_upto_region 11 with (fail)
        refine wp_region_tbl [.val (.slice (some ⟨b, off, none⟩) n c), .val (.int .i64 (j : Int)), .val (.pointer (some ⟨b, off + j * 3, none⟩)), .val (.pointer (some ⟨b, off + j * 3 + 1, none⟩)), .val (.int .u32 (Y1 : Int)), .val (.pointer (some ⟨g, 1, none⟩)), .val (.int .u32 (X1 : Int)), .val (.bool false), .val (.bool false), .val (.slice (some ⟨b, off, none⟩) n c), .val (.int .i64 (j : Int)), .val (.pointer (some ⟨b, off + j * 3, none⟩)), .val (.pointer (some ⟨b, off + j * 3, none⟩)), .val (.string Y0), .val (.string (foldB Y0)), .val (.pointer (some ⟨g, 0, none⟩)), .val (.string X0), .val (.string (foldB X0)), .val (.bool false), .val (.bool false)] (by kernel_rfl) (by kernel_rfl) (by kernel_rfl) (AllObl.all ⟨?_, ?_, ?_, ?_, ?_, ?_, ?_, ?_, ?_, ?_, ?_, ?_, ?_, ?_, ?_, ?_, ?_, ?_, ?_, ?_, trivial⟩) ?_
        · exact Obl.move trivial _ (Or.inl rfl) (by kernel_rfl)
        · exact Obl.move trivial _ (Or.inl rfl) (by kernel_rfl)
        · exact Obl.pure trivial (.pointer (some ⟨b, off + j * 3, none⟩)) (by kernel_rfl) (fun ev w hb hx => by
            have e55 : ev (.tmp 55) = .slice (some ⟨b, off, none⟩) n c := holds_val (hx (.tmp 55)) (by kernel_rfl)
            have e56 : ev (.tmp 56) = .int .i64 (j : Int) := holds_val (hx (.tmp 56)) (by kernel_rfl)
            simp [execOp, e55, e56, go_sem, hjn, hjn'])
        · exact Obl.pure trivial (.pointer (some ⟨b, off + j * 3 + 1, none⟩)) (by kernel_rfl) (fun ev w hb hx => by
            have e57 : ev (.tmp 57) = .pointer (some ⟨b, off + j * 3, none⟩) := holds_val (hx (.tmp 57)) (by kernel_rfl)
            simp [execOp, e57, go_sem])
        · exact Obl.pure trivial (.int .u32 (Y1 : Int)) (by kernel_rfl) (fun ev w hb hx => by
            have e58 : ev (.tmp 58) = .pointer (some ⟨b, off + j * 3 + 1, none⟩) := holds_val (hx (.tmp 58)) (by kernel_rfl)
            (have mm := (((drew_below _).trans hb).cell (p := ⟨b, off + j * 3 + 1, none⟩) hbl7).trans p1; simp [execOp, e58, go_sem, mm]))
        · exact Obl.pure trivial (.pointer (some ⟨g, 1, none⟩)) (by kernel_rfl) (fun ev w hb hx => by
            have e4 : ev (.tmp 4) = .pointer (some ⟨g, 0, none⟩) := holds_val (hx (.tmp 4)) (by kernel_rfl)
            simp [execOp, e4, go_sem])
        · exact Obl.pure trivial (.int .u32 (X1 : Int)) (by kernel_rfl) (fun ev w hb hx => by
            have e60 : ev (.tmp 60) = .pointer (some ⟨g, 1, none⟩) := holds_val (hx (.tmp 60)) (by kernel_rfl)
            (have m1 := (((drew_below _).trans hb).cell (p := ⟨g, 1, none⟩) hgl).trans c1; simp [execOp, e60, go_sem, m1]))
        · exact Obl.bin trivial .eql _ (.tmp 59) (.tmp 61) _ rfl (.int .u32 (Y1 : Int)) (.int .u32 (X1 : Int)) (.bool false) (by kernel_rfl) (by kernel_rfl) (fun w => by simp [eqGuard, go_sem]; try omega) (by kernel_rfl)
        · exact Obl.move trivial _ (Or.inl rfl) (by kernel_rfl)
        · exact Obl.move ⟨by kernel_rfl, by kernel_rfl, by kernel_rfl⟩ _ (Or.inl rfl) (by kernel_rfl)
        · exact Obl.move ⟨by kernel_rfl, by kernel_rfl, by kernel_rfl⟩ _ (Or.inl rfl) (by kernel_rfl)
        · exact Obl.pure ⟨by kernel_rfl, by kernel_rfl, by kernel_rfl⟩ (.pointer (some ⟨b, off + j * 3, none⟩)) (by kernel_rfl) (fun ev w hb hx => by
            have e64 : ev (.tmp 64) = .slice (some ⟨b, off, none⟩) n c := holds_val (hx (.tmp 64)) (by kernel_rfl)
            have e65 : ev (.tmp 65) = .int .i64 (j : Int) := holds_val (hx (.tmp 65)) (by kernel_rfl)
            simp [execOp, e64, e65, go_sem, hjn, hjn'])
        · exact Obl.pure ⟨by kernel_rfl, by kernel_rfl, by kernel_rfl⟩ (.pointer (some ⟨b, off + j * 3, none⟩)) (by kernel_rfl) (fun ev w hb hx => by
            have e66 : ev (.tmp 66) = .pointer (some ⟨b, off + j * 3, none⟩) := holds_val (hx (.tmp 66)) (by kernel_rfl)
            simp [execOp, e66, go_sem])
        · exact Obl.pure ⟨by kernel_rfl, by kernel_rfl, by kernel_rfl⟩ (.string Y0) (by kernel_rfl) (fun ev w hb hx => by
            have e67 : ev (.tmp 67) = .pointer (some ⟨b, off + j * 3, none⟩) := holds_val (hx (.tmp 67)) (by kernel_rfl)
            (have mm := (((drew_below _).trans hb).cell (p := ⟨b, off + j * 3, none⟩) hbl7).trans p0; simp [execOp, e67, go_sem, mm]))
        · exact Obl.call ⟨by kernel_rfl, by kernel_rfl, by kernel_rfl⟩ 58 #[.tmp 68] _ rfl Try.f58 Try.func58 (by kernel_rfl) (by kernel_rfl) (fun ev w hb hx => by
            have e68 : ev (.tmp 68) = .string Y0 := holds_val (hx (.tmp 68)) (by kernel_rfl)
            simp only [List.map_toArray, List.map_cons, List.map_nil, e68]
            exact ((ref_fold Y0 w (by omega))).mono fun _ _ hh => Val.holds (by kernel_rfl) hh)
        · exact Obl.pure ⟨by kernel_rfl, by kernel_rfl, by kernel_rfl⟩ (.pointer (some ⟨g, 0, none⟩)) (by kernel_rfl) (fun ev w hb hx => by
            have e4 : ev (.tmp 4) = .pointer (some ⟨g, 0, none⟩) := holds_val (hx (.tmp 4)) (by kernel_rfl)
            simp [execOp, e4, go_sem])
        · exact Obl.pure ⟨by kernel_rfl, by kernel_rfl, by kernel_rfl⟩ (.string X0) (by kernel_rfl) (fun ev w hb hx => by
            have e70 : ev (.tmp 70) = .pointer (some ⟨g, 0, none⟩) := holds_val (hx (.tmp 70)) (by kernel_rfl)
            (have m0 := (((drew_below _).trans hb).cell (p := ⟨g, 0, none⟩) hgl).trans c0; simp [execOp, e70, go_sem, m0]))
        · exact Obl.call ⟨by kernel_rfl, by kernel_rfl, by kernel_rfl⟩ 58 #[.tmp 71] _ rfl Try.f58 Try.func58 (by kernel_rfl) (by kernel_rfl) (fun ev w hb hx => by
            have e71 : ev (.tmp 71) = .string X0 := holds_val (hx (.tmp 71)) (by kernel_rfl)
            simp only [List.map_toArray, List.map_cons, List.map_nil, e71]
            exact ((ref_fold X0 w (by omega))).mono fun _ _ hh => Val.holds (by kernel_rfl) hh)
        · exact Obl.bin ⟨by kernel_rfl, by kernel_rfl, by kernel_rfl⟩ .eql _ (.tmp 69) (.tmp 72) _ rfl (.string (foldB Y0)) (.string (foldB X0)) (.bool false) (by kernel_rfl) (by kernel_rfl) (fun w => eql_strs (foldB Y0).data.toList (foldB X0).data.toList false HNE.out _ _ w) (by kernel_rfl)
        · exact Obl.pick trivial _ _ _ rfl false (by kernel_rfl) (by kernel_rfl)
        intro a WR hb hsz hdf hold hv
        have ha := act_puts [55, 56, 57, 58, 59, 60, 61, 62, 63, 64, 65, 66, 67, 68, 69, 70, 71, 72, 73, 74] (by kernel_rfl) hsz hdf hold
        simp only [putAll] at ha
        have z74 : a.tmps.getD 74 undef = .bool false := holds_val (hv 19 74 (by kernel_rfl)) (by kernel_rfl)
        rw [z74] at ha
        generalize a.tmps.getD 55 undef = x55 at ha
        generalize a.tmps.getD 56 undef = x56 at ha
        generalize a.tmps.getD 57 undef = x57 at ha
        generalize a.tmps.getD 58 undef = x58 at ha
        generalize a.tmps.getD 59 undef = x59 at ha
        generalize a.tmps.getD 60 undef = x60 at ha
        generalize a.tmps.getD 61 undef = x61 at ha
        generalize a.tmps.getD 62 undef = x62 at ha
        generalize a.tmps.getD 63 undef = x63 at ha
        generalize a.tmps.getD 64 undef = x64 at ha
        generalize a.tmps.getD 65 undef = x65 at ha
        generalize a.tmps.getD 66 undef = x66 at ha
        generalize a.tmps.getD 67 undef = x67 at ha
        generalize a.tmps.getD 68 undef = x68 at ha
        generalize a.tmps.getD 69 undef = x69 at ha
        generalize a.tmps.getD 70 undef = x70 at ha
        generalize a.tmps.getD 71 undef = x71 at ha
        generalize a.tmps.getD 72 undef = x72 at ha
        generalize a.tmps.getD 73 undef = x73 at ha
        clear hv hold hsz hdf z74
        subst ha
        simp only [Act.put, List.setIfInBounds_toArray, List.set_cons_succ, List.set_cons_zero]
        have hbk2 := hbk.trans (((drew_below _).trans hb).mono hbk.size)
        clear hb p0 p1 c0 c1 c2 HNE hbk
        go_wp2_with fail
        go_roundw
        case rel => exact ⟨j + 1, by omega, by go_num, hbk2⟩
        case measure => simp [intOf]; omega
      · have g4 : ¬ (j : Int) < (q : Int) := by omega
        have hbe := hb7.trans (hbk.mono hwg')
        clear hb7 hbk h c0 c1 c2
        go_wp2_with fail
        go_roundw
        case rel => exact ⟨q + 1, by omega, by go_num, hbe⟩
        case measure => simp [intOf]; omega
  · have g3 : ¬ (q : Int) < (n : Int) := by omega
    go_wp2_with fail
    go_ret
    exact ⟨rfl, hbr⟩
end Go.Proofs.Ytgjncaobcgjefaa.RP
