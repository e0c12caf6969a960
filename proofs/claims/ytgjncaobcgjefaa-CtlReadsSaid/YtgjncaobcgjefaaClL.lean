/- Contract: ctl.Layers, of any layers. -/
import Derived.Test.YtgjncaobcgjefaaNi
import Derived.Test.YtgjncaobcgjefaaCtL8
namespace Go.Proofs.Ytgjncaobcgjefaa.RP
open Go.RowKit
set_option linter.unusedVariables false
set_option linter.unusedSimpArgs false
set_option maxRecDepth 20000

/-- A layer keeps apart from one ahead of it. -/
def goodP (x y : Lay) : Prop := foldB x.rid ≠ foldB y.rid ∧ x.ssrc ≠ y.ssrc ∧ y.height < x.height
theorem right_of {l : List Lay} (h1 : 1 ≤ l.length) (h3 : l.length ≤ 3) (hok : ∀ (i : Nat) (hi : i < l.length), okL l[i] = true ∧ ∀ (j : Nat) (hj : j < i), goodP l[i] (l[j]'(by omega))) : rightL l = true := by
  have hall : ∀ x ∈ l, okL x = true := fun x hx => by
    obtain ⟨i, hi, rfl⟩ := List.getElem_of_mem hx
    exact (hok i hi).1
  unfold rightL
  rw [decide_eq_true ⟨h1, h3⟩, List.all_eq_true.2 hall]
  match l, hok, h1, h3 with
  | [x], hok, _, _ => simp [rises, pairs, apart]
  | [x, y], hok, _, _ =>
    have h := (hok 1 (by simp)).2 0 (by omega)
    obtain ⟨a, b, c⟩ := h
    simp only [List.getElem_cons_succ, List.getElem_cons_zero] at a b c
    simp [rises, pairs, apart, a, b, c]
  | [x, y, z], hok, _, _ =>
    obtain ⟨a, b, c⟩ := (hok 1 (by simp)).2 0 (by omega)
    obtain ⟨a', b', c'⟩ := (hok 2 (by simp)).2 0 (by omega)
    obtain ⟨a'', b'', c''⟩ := (hok 2 (by simp)).2 1 (by omega)
    simp only [List.getElem_cons_succ, List.getElem_cons_zero] at a b c a' b' c' a'' b'' c''
    simp [rises, pairs, apart, a, b, c, a', b', a'', b'', c'']
theorem rises_le {l : List Lay} (h : rises l = true) : ∀ (d j : Nat) (hi : j + 1 + d < l.length), (l[j]'(by omega)).height < l[j + 1 + d].height
  | 0, j, hi => rises_at h j hi
  | d + 1, j, hi => by
    have h1 := rises_le h d j (by omega)
    have h2 := rises_at h (j + 1 + d) hi
    exact Int.lt_trans h1 h2
theorem right_at {l : List Lay} (h : rightL l = true) (i : Nat) (hi : i < l.length) : okL l[i] = true ∧ ∀ (j : Nat) (hj : j < i), goodP l[i] (l[j]'(by omega)) := by
  have hr := rightL_of h
  refine ⟨hr.2.1 _ (List.getElem_mem hi), fun j hj => ?_⟩
  have hp := pairs_at hr.2.2.2 j i hj hi
  have hr3 := rises_le hr.2.2.1 (i - j - 1) j (by omega)
  simp only [show j + 1 + (i - j - 1) = i by omega] at hr3
  exact ⟨hp.2, hp.1, hr3⟩
theorem run_toL (A : Option Addr) (n c k : Nat) (hk : k ≤ c) (w : World) :
    (Instr.slice 23 (.slice A n c) none (some (.int .i64 (k : Int))) none).run Try.prog w = .ok (.slice A k c) w := by
  have e : (if c = 0 then A else A.map (·.add 0)) = A := by
    split
    · rfl
    · cases A with
      | none => rfl
      | some a => simp [Addr.add]
  have hs : (Try.prog.elem 23) = 46 := by simp [Program.elem, Try.underlying23]
  have h3 := run_slice_h (P := Try.prog) w 23 A n c (by rw [hs]; exact Try.underlying23) .i64 (k : Nat) (by omega) (by omega)
  rw [hs] at h3
  obtain ⟨i0, hi0, hz0, hz1, hz2⟩ := info_parts lay_info
  rw [h3]
  simp [sizeOf, typeInfo, hi0, hz1, sliced, Result.andThen, e]
def layE (l : List Lay) : Int := if rightL l = true then 0 else 26
set_option maxHeartbeats 8000000 in
theorem ctl_layers (l : List Lay) (A : Option Addr) (n c : Nat) (w : World) (h : RL w w.heap.size A n c l) (hn47 : n ≤ 1000000) : Calls Try.prog 14 #[.slice A n c] w (Ans (.int .i64 (layE l)) w) := by
  have hln := h.1
  by_cases hn : 1 ≤ n ∧ n ≤ 3
  case neg =>
    have hR : layE l = 26 := by
      unfold layE rightL
      rw [decide_eq_false (by omega)]
      simp
    rw [hR]
    clear hR h hln
    by_cases h0 : n = 0
    · subst h0
      clear hn
      go_enter Try.func14, Try.ntmps14
      go_wp2_with fail
      go_ret
      exact ⟨rfl, Below.refl _ _⟩
    · have t1 : decide ((n : Int) < 1) = false := by simp; omega
      have t2 : decide ((3 : Int) < (n : Int)) = true := by simp; omega
      clear hn h0
      go_enter Try.func14, Try.ntmps14
      go_wp2_with fail
      go_ret
      exact ⟨rfl, Below.refl _ _⟩
  have t1 : decide ((n : Int) < 1) = false := by simp; omega
  have t2 : decide ((3 : Int) < (n : Int)) = false := by simp; omega
  have hcn := h.2.2.2.1
  have HLN := Lib.hid hln
  have HN := Lib.hid hn
  have HYE : Hid ((∀ (i : Nat) (hi : i < l.length), okL l[i] = true ∧ ∀ (j : Nat) (hj : j < i), goodP l[i] (l[j]'(by omega))) → layE l = 0) := Lib.hid fun hok => by
    unfold layE
    rw [if_pos (right_of (by omega) (by omega) hok)]
  have HNO : Hid (∀ (i : Nat) (hi : i < l.length), ¬ (okL l[i] = true ∧ ∀ (j : Nat) (hj : j < i), goodP l[i] (l[j]'(by omega))) → layE l = 26) := Lib.hid fun i hi hno => by
    unfold layE
    rw [if_neg fun hr => hno (right_at hr i hi)]
  clear hln hn
  generalize layE l = R at HYE HNO ⊢
  go_enter Try.func14, Try.ntmps14
  go_wp2_with fail
  clear t1 t2
  go_loopw [3, 4, 6, 17] (fun _ _ _ i wr => ∃ q : Nat, q ≤ n ∧ i = .int .i64 (q : Int) ∧ Hid (∀ (i : Nat) (hi : i < l.length), i < q → okL l[i] = true ∧ ∀ (j : Nat) (hj : j < i), goodP l[i] (l[j]'(by omega))) ∧ Below w.heap.size w wr) (fun _ _ _ i _ => n - (intOf i).toNat)
  case atStart => exact ⟨0, by omega, rfl, Lib.hid (fun i hi h0 => by omega), Below.refl _ _⟩
  obtain ⟨q, hq, rfl, HQ, hbr⟩ := hrel
  by_cases hlt : q < n
  case neg =>
    have g3 : ¬ (q : Int) < (n : Int) := by omega
    have hR : R = 0 := HYE.out fun i hi => HQ.out i hi (by have := HLN.out; omega)
    subst hR
    go_wp2_with fail
    go_ret
    exact ⟨rfl, hbr⟩
  have g3 : decide ((q : Int) < (n : Int)) = true := by simp; omega
  have hql : q < l.length := by rw [HLN.out]; exact hlt
  obtain ⟨b, off, rfl, hbl, k0, k1, k2⟩ := (h.below hbr).at hql
  have hs := hbr.size
  have hg0 : b < wr.heap.size := by omega
  have hin := h.2.1 _ (List.getElem_mem hql)
  obtain ⟨X, hX⟩ : ∃ X, X = l[q] := ⟨_, rfl⟩
  rw [← hX] at k0 k1 k2 hin
  have HNq := Lib.hid (HNO.out q hql)
  rw [← hX] at HNq
  have HX := Lib.hid hX
  clear hX
  obtain ⟨X0, X1, X2⟩ := X
  simp only at k0 k1 k2
  have hx0 : X0.size ≤ 4611686018427387904 := by have := hin.rid; simp only at this; omega
  have b7 := hbr.trans ((below_alloc wr (.cells #[.string X0, .int .u32 (X1 : Int), .int .i64 X2] 46)).mono hs)
  have hBk := Blk.new wr 46 #[.string X0, .int .u32 (X1 : Int), .int .i64 X2]
  have hbl7 : b < (wr.alloc (.cells #[.string X0, .int .u32 (X1 : Int), .int .i64 X2] 46)).heap.size := by simp; omega
  go_upto_region 6 with (fail)
  obtain ⟨g, hg⟩ : ∃ g, g = wr.heap.size := ⟨_, rfl⟩
  generalize wr.alloc (.cells #[.string X0, .int .u32 (X1 : Int), .int .i64 X2] 46) = W7 at b7 hBk hbl7 ⊢
  rw [← hg] at hBk ⊢
  clear hg hbr k0 k1 k2 hs hg0 hin
  have hgl := hBk.lt
  obtain ⟨⟨c0, c1, c2⟩, _⟩ := blk3 hBk
  obtain ⟨F, hF⟩ : ∃ F, F = right X0 := ⟨_, rfl⟩
  have hRA := right_any X0 W7 hx0
  rw [← hF] at hRA
  have HF := Lib.hid hF
  clear hF
  by_cases e1 : F = true
  case neg =>
    have e1 : F = false := by simpa using e1
    subst e1
    have hR : R = 26 := HNq.out fun e => by
      have := (okL_of e.1).1
      simp only at this
      rw [← HF.out] at this
      cases this
    subst hR
    go_wp2_with fail
    refine hRA.mono ?_
    rintro e w1 ⟨rfl, b1⟩
    have b2 := b7.trans (b1.mono b7.size)
    clear b1 c0 c1 c2
    go_wp2_with fail
    go_ret
    exact ⟨rfl, b2⟩
  subst e1
  by_cases e2 : X2 < 1
  · have g2 : decide (X2 < 1) = true := by simpa using e2
    have hR : R = 26 := HNq.out fun e => by
      have := (okL_of e.1).2
      simp only at this
      omega
    subst hR
    go_wp2_with fail
    refine hRA.mono ?_
    rintro e w1 ⟨rfl, b1⟩
    obtain ⟨⟨c0, c1, c2⟩, _⟩ := blk3 (hBk.below b1 hgl)
    have b2 := b7.trans (b1.mono b7.size)
    clear b1
    go_wp2_with fail
    go_ret
    exact ⟨rfl, b2⟩
  have g2 : decide (X2 < 1) = false := by simp; omega
  by_cases e3 : 8192 < X2
  · have g3 : decide ((8192 : Int) < X2) = true := by simpa using e3
    have hR : R = 26 := HNq.out fun e => by
      have := (okL_of e.1).2
      simp only at this
      omega
    subst hR
    go_wp2_with fail
    refine hRA.mono ?_
    rintro e w1 ⟨rfl, b1⟩
    obtain ⟨⟨c0, c1, c2⟩, _⟩ := blk3 (hBk.below b1 hgl)
    have b2 := b7.trans (b1.mono b7.size)
    clear b1
    go_wp2_with fail
    go_ret
    exact ⟨rfl, b2⟩
  have g3 : decide ((8192 : Int) < X2) = false := by simp; omega
  have HOK : Hid (okL ⟨X0, X1, X2⟩ = true) := Lib.hid (by
    unfold okL
    simp only
    rw [← HF.out]
    simp
    omega)
  have hx8 : X0.size ≤ 8 := (right_size HF.out.symm).2
  clear HF hx0
  go_wp2_with fail
  refine hRA.mono ?_
  rintro e W8 ⟨rfl, b1⟩
  have hBk := hBk.below b1 hgl
  have hgl := hBk.lt
  obtain ⟨⟨c0, c1, c2⟩, _⟩ := blk3 hBk
  have b8 := b7.trans (b1.mono b7.size)
  have hbl8 : b < W8.heap.size := by have := b1.size; omega
  clear b1 b7 hbl7 hRA
  have hcut := fun W => run_toL (some ⟨b, off, none⟩) n c q (by omega) W
  go_wp2_with fail
  clear e2 e3 g2 g3 hcut
  go_loopw [6, 40] (fun _ k wk => ∃ j : Nat, j ≤ q ∧ k = .int .i64 (j : Int) ∧ Hid (∀ (i : Nat) (hi : i < l.length), i < j → goodP ⟨X0, X1, X2⟩ l[i]) ∧ Below W8.heap.size W8 wk) (fun _ k _ => q - (intOf k).toNat)
  case atStart => exact ⟨0, by omega, rfl, Lib.hid (fun i hi h0 => by omega), Below.refl _ _⟩
  obtain ⟨j, hj, rfl, HJ, hbk⟩ := hrel
  have hbe := b8.trans (hbk.mono b8.size)
  by_cases hjq : j < q
  case neg =>
    have g4 : ¬ (j : Int) < (q : Int) := by omega
    have HQ2 : Hid (∀ (i : Nat) (hi : i < l.length), i < q + 1 → okL l[i] = true ∧ ∀ (j : Nat) (hj : j < i), goodP l[i] (l[j]'(by omega))) := Lib.hid fun i hi hiq => by
      by_cases hii : i = q
      · subst hii
        rw [← HX.out]
        exact ⟨HOK.out, fun j' hj' => HJ.out j' (by omega) (by omega)⟩
      · exact HQ.out i hi (by omega)
    clear HQ HJ hbk b8 h c0 c1 c2
    go_wp2_with fail
    go_roundw
    case rel => exact ⟨q + 1, by omega, by go_num, HQ2, hbe⟩
    case measure => simp [intOf]; omega
  have g4 : decide ((j : Int) < (q : Int)) = true := by simp; omega
  have hjl : j < l.length := by omega
  obtain ⟨b', off', e', hbl', p0, p1, p2⟩ := (h.below hbe).at hjl
  cases e'
  have hjr := (right_size (okL_of (HQ.out j hjl hjq).1).1).2
  obtain ⟨Y, hY⟩ : ∃ Y, Y = l[j] := ⟨_, rfl⟩
  rw [← hY] at p0 p1 p2 hjr
  have HNj : Hid (¬ goodP ⟨X0, X1, X2⟩ Y → R = 26) := Lib.hid fun hno => HNq.out fun e => hno (by rw [hY]; exact e.2 j hjq)
  have HY := Lib.hid hY
  clear hY
  obtain ⟨Y0, Y1, Y2⟩ := Y
  simp only at p0 p1 p2 hjr
  obtain ⟨⟨c0, c1, c2⟩, _⟩ := blk3 (hBk.below hbk hgl)
  have hbl9 : b < wr.heap.size := by have := hbk.size; omega
  have hgl9 : g < wr.heap.size := by have := hbk.size; omega
  have hgn : g ≠ wr.heap.size := by omega
  have b9 := hbe.trans ((below_alloc wr (.cells #[.string Y0, .int .u32 (Y1 : Int), .int .i64 Y2] 46)).mono hbe.size)
  have hb9 := hbk.trans ((below_alloc wr (.cells #[.string Y0, .int .u32 (Y1 : Int), .int .i64 Y2] 46)).mono hbk.size)
  have hB9 := Blk.new wr 46 #[.string Y0, .int .u32 (Y1 : Int), .int .i64 Y2]
  have hX9 := (hBk.below hbk hgl).alloc (.cells #[.string Y0, .int .u32 (Y1 : Int), .int .i64 Y2] 46)
  go_upto_region 11 with (fail)
  obtain ⟨g2, hg2⟩ : ∃ g2, g2 = wr.heap.size := ⟨_, rfl⟩
  generalize wr.alloc (.cells #[.string Y0, .int .u32 (Y1 : Int), .int .i64 Y2] 46) = W9 at b9 hb9 hB9 hX9 ⊢
  rw [← hg2] at hB9 ⊢
  clear hg2 hgn hgl9 hbl9 p0 p1 p2 c0 c1 c2 hbe hbk
  have hg9 := hX9.lt
  have hh9 := hB9.lt
  obtain ⟨⟨c0, c1, c2⟩, _⟩ := blk3 hX9
  obtain ⟨⟨p0, p1, p2⟩, _⟩ := blk3 hB9
  have hS := same_any X0 Y0 W9 (by omega) (by omega)
  obtain ⟨F, hF⟩ : ∃ F, F = ((foldB X0).toList == (foldB Y0).toList) := ⟨_, rfl⟩
  rw [← hF] at hS
  have HF := Lib.hid hF
  clear hF
  by_cases e1 : F = true
  · subst e1
    have hR : R = 26 := HNj.out fun e => e.1 (by
      have h1 := HF.out
      simp only
      rw [ByteArray.toList_eq, ByteArray.toList_eq] at h1
      exact ByteArray.ext (Array.ext' (eq_of_beq h1.symm)))
    subst hR
    go_wp2_with fail
    refine hS.mono ?_
    rintro e w1 ⟨rfl, b1⟩
    have b2 := b9.trans (b1.mono b9.size)
    clear b1 c0 c1 c2 p0 p1 p2
    go_wp2_with fail
    go_ret
    exact ⟨rfl, b2⟩
  have e1 : F = false := by simpa using e1
  subst e1
  by_cases e2 : X1 = Y1
  · have g2 : ((X1 : Int) == (Y1 : Int)) = true := by simp [e2]
    have hR : R = 26 := HNj.out fun e => e.2.1 e2
    subst hR
    clear e2
    go_wp2_with fail
    refine hS.mono ?_
    rintro e w1 ⟨rfl, b1⟩
    obtain ⟨⟨c0, c1, c2⟩, _⟩ := blk3 (hX9.below b1 hg9)
    obtain ⟨⟨p0, p1, p2⟩, _⟩ := blk3 (hB9.below b1 hh9)
    have b2 := b9.trans (b1.mono b9.size)
    clear b1
    go_wp2_with fail
    go_ret
    exact ⟨rfl, b2⟩
  have g2' : ((X1 : Int) == (Y1 : Int)) = false := by simp; omega
  by_cases e3 : X2 ≤ Y2
  · have g3 : decide (X2 ≤ Y2) = true := by simpa using e3
    have hR : R = 26 := HNj.out fun e => by have := e.2.2; simp only at this; omega
    subst hR
    clear e2
    go_wp2_with fail
    refine hS.mono ?_
    rintro e w1 ⟨rfl, b1⟩
    obtain ⟨⟨c0, c1, c2⟩, _⟩ := blk3 (hX9.below b1 hg9)
    obtain ⟨⟨p0, p1, p2⟩, _⟩ := blk3 (hB9.below b1 hh9)
    have b2 := b9.trans (b1.mono b9.size)
    clear b1
    go_wp2_with fail
    go_ret
    exact ⟨rfl, b2⟩
  have g3 : decide (X2 ≤ Y2) = false := by simpa using e3
  have HJ2 : Hid (∀ (i : Nat) (hi : i < l.length), i < j + 1 → goodP ⟨X0, X1, X2⟩ l[i]) := Lib.hid fun i hi hij => by
    by_cases hii : i = j
    · subst hii
      rw [← HY.out]
      refine ⟨fun h1 => ?_, e2, by simp only; omega⟩
      have h2 := HF.out
      simp only at h1
      rw [h1] at h2
      simp at h2
    · exact HJ.out i hi (by omega)
  clear e2 HJ
  go_wp2_with fail
  refine hS.mono ?_
  rintro e w1 ⟨rfl, b1⟩
  obtain ⟨⟨c0, c1, c2⟩, _⟩ := blk3 (hX9.below b1 hg9)
  obtain ⟨⟨p0, p1, p2⟩, _⟩ := blk3 (hB9.below b1 hh9)
  have b2 := hb9.trans (b1.mono hb9.size)
  clear b1
  go_wp2_with fail
  go_roundw
  case rel => exact ⟨j + 1, by omega, by go_num, HJ2, b2⟩
  case measure => simp [intOf]; omega
end Go.Proofs.Ytgjncaobcgjefaa.RP
