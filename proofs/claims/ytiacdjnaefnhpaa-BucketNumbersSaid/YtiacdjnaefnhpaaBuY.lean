/- Law 10's helper: play, of any asks. -/
import Derived.Test.YtiacdjnaefnhpaaBuK
import Derived.Test.YtiacdjnaefnhpaaAkM
import Derived.Test.YtiacdjnaefnhpaaRegS
import Derived.Deep.Cut
import Derived.Deep.CutBlock
namespace Go.Proofs.Ytiacdjnaefnhpaa
open Go.RowKit
set_option linter.unusedVariables false
set_option linter.unusedSimpArgs false
set_option maxRecDepth 20000

theorem BkOut.keep {g r u l B : Nat} {v : Value} {w0 w w' : World} {e : Ending} (h : BkOut g r u l v w e w') (hg : B ≤ g) (hb : Below B w0 w) (hB : B ≤ w.heap.size) : Below B w0 w' := hb.trans (h.2.2.below hg hB)
theorem rate_ok {r u l : Nat} (h : BkOk r u l) (n : Int) : BkOk (heldN n) u l := ⟨heldN_le n, h.burst, h.level⟩
/-- What stands while a play goes on: both buckets, as the same numbers. -/
def PlyAt (w0 : World) (g g' u : Nat) (W : World) : Prop := ∃ r l, PkAt W g r u l ∧ BkAt W g' r u l ∧ BkOk r u l ∧ Below w0.heap.size w0 W
/-- Beside an ask that is read while two buckets turn. -/
def tkF (w0 : World) (ga : Nat) (kd nn : Int) : Frame where
  I := fun W => Below w0.heap.size w0 W ∧ Blk W ga 24 #[.int .i64 kd, .int .i64 nn]
  Fr := fun a b => Below a.heap.size a b
  refl := fun w _ => Below.refl _ w
  trans := fun a b c h k => h.trans (k.mono h.size)
  drew := fun W h => ⟨⟨h.1.trans ((belowDrewN W 1).mono h.1.size), ((belowDrewN W 1).block ga h.2.lt).trans h.2⟩, belowDrewN W 1⟩
def tkP (w0 : World) (ga : Nat) (kd nn : Int) (g r u l : Nat) : ClF (tkF w0 ga kd nn) := .pred (fun v W => v = .bool (takeB l nn) ∧ PkAt W g r u (takeL l nn)) (fun v a b _ hf _ h => ⟨h.1, h.2.on hf⟩)
def tkB (w0 : World) (ga : Nat) (kd nn : Int) (g r u l : Nat) : ClF (tkF w0 ga kd nn) := .pred (fun v W => v = .bool (takeB l nn) ∧ BkAt W g r u (takeL l nn)) (fun v a b _ hf _ h => ⟨h.1, h.2.on hf⟩)
theorem tkP_of {w0 : World} {ga g r u l : Nat} {kd nn : Int} {c : ClF (tkF w0 ga kd nn)} {v : Value} {W : World} (h : c.holds v W) (e : c = tkP w0 ga kd nn g r u l) : v = .bool (takeB l nn) ∧ PkAt W g r u (takeL l nn) := by subst e; exact h
theorem tkB_of {w0 : World} {ga g r u l : Nat} {kd nn : Int} {c : ClF (tkF w0 ga kd nn)} {v : Value} {W : World} (h : c.holds v W) (e : c = tkB w0 ga kd nn g r u l) : v = .bool (takeB l nn) ∧ BkAt W g r u (takeL l nn) := by subst e; exact h
set_option maxHeartbeats 4000000 in
theorem play_any (a b : Int) (A : Option Addr) (n c : Nat) (L : List Ask) (w : World) (ha : I64 a) (hb : I64 b) (h : RA w w.heap.size A n c L) (hn : n ≤ 8796093022208) :
    Calls Try.prog 8 #[.int .i64 a, .int .i64 b, .slice A n c] w (Yes w) := by
  have hlen := h.1
  have hin := Lib.hid h.2.1
  have HRA := Lib.hid h
  have i1 : I64 1 := by unfold I64; omega
  have I1 := Lib.hid i1
  clear h i1
  go_enter Try.func8, Try.ntmps8
  go_wp2_with fail
  refine (pk_new a b ha hb _).mono ?_
  rintro e w1 ⟨g, rfl, p0, hg, b0⟩
  go_wp2_with fail
  refine (ref_new a b ha hb _).mono ?_
  rintro e w2 ⟨g', rfl, q0, hg', b1⟩
  have hne : g ≠ g' := by have := p0.lt; omega
  have HG := Lib.hid (⟨hg, Nat.le_trans b0.size hg', hne⟩ : w.heap.size ≤ g ∧ w.heap.size ≤ g' ∧ g ≠ g')
  have HP := Lib.hid (⟨_, _, p0.on b1, q0, new_ok a b, b0.trans (b1.mono b0.size)⟩ : PlyAt w g g' (heldN b) w2)
  have HB := Lib.hid hb
  clear hg hg' p0 q0 b0 b1 hne ha hb
  generalize heldN b = u at HP
  go_wp2_with fail
  go_loopw [9, 10, 44, 55] (fun i _ _ _ wr => ∃ q : Nat, q ≤ n ∧ q ≤ 100 ∧ i = .int .i64 (q : Int) ∧ Hid (PlyAt w g g' u wr)) (fun i _ _ _ _ => 100 - (intOf i).toNat)
  case atStart => exact ⟨0, by omega, by omega, rfl, HP⟩
  case round =>
    obtain ⟨q, hqn, hq, rfl, HP⟩ := hrel
    by_cases hlt : q < n ∧ q < 100
    · obtain ⟨hl1, hl2⟩ := hlt
      have g1 : decide ((q : Int) < (n : Int)) = true := by simp; omega
      have g2 : decide ((q : Int) < 100) = true := by simp; omega
      have g3 : (q : Int) < (n : Int) := by omega
      obtain ⟨r, l, hp, hb, ok, hbw⟩ := HP.out
      obtain ⟨bA, off, rfl, hbA, c0, c1⟩ := (HRA.out.below hbw).at (q := q) (by omega)
      have hx := hin.out L[q] (List.getElem_mem (by omega))
      obtain ⟨hk64, hn64⟩ := hx
      generalize L[q].kind = kd at c0 hk64
      generalize L[q].n = nn at c1 hn64
      have hp0 := hp.on (belowA wr (.cells #[.int .i64 kd, .int .i64 nn] 24))
      have hb0 := hb.on (belowA wr (.cells #[.int .i64 kd, .int .i64 nn] 24))
      have b0 := hbw.trans ((belowA wr (.cells #[.int .i64 kd, .int .i64 nn] 24)).mono hbw.size)
      have HA0 : Blk (wr.alloc (.cells #[.int .i64 kd, .int .i64 nn] 24)) wr.heap.size 24 #[.int .i64 kd, .int .i64 nn] := Blk.new _ _ _
      have hx1 := hp.lt
      have hx2 := hb.lt
      have H0 := Lib.hid (⟨hp0, hb0, b0, HA0, hx1, hx2⟩ : _ ∧ _ ∧ _ ∧ _ ∧ _ ∧ _)
      clear hp hb hbw hp0 hb0 b0 HA0 hx1 hx2 HP
      go_upto_if 32 with (fail)
      generalize wr.alloc (.cells #[.int .i64 kd, .int .i64 nn] 24) = W at H0 ⊢
      generalize wr.heap.size = ga at H0 ⊢
      obtain ⟨hp, hb, b, HA, hx1, hx2⟩ := H0.out
      obtain ⟨hg1, hg2, hne⟩ := HG.out
      have hga1 : ga ≠ g := by omega
      have hga2 : ga ≠ g' := by omega
      have d0 := HA.cell 0
      have d1 := HA.cell 1
      clear H0 hx1 hx2 c0 c1 hbA g1 g2 g3
      by_cases k0 : kd = 0
      · subst k0
        go_wp2_with fail
        ((with_reducible refine (pk_tick g r u l nn _ hp ok hn64).mono ?_); rintro e W2 ⟨rfl, hp2, o2⟩)
        have hb2 := hb.only o2 hne.symm
        have HA2 : Blk W2 ga 24 #[.int .i64 0, .int .i64 nn] := (o2.block ga HA.lt hga1).trans HA
        have b2 := b.trans (o2.below hg1 b.size)
        have d1 := HA2.cell 1
        clear hp hb HA b d0 o2
        go_wp2_with fail
        ((with_reducible refine (ref_tick g' r u l nn _ hb2 ok hn64).mono ?_); rintro e W3 ⟨rfl, hb3, o3⟩)
        have hp3 := hp2.only o3 hne
        have HA3 : Blk W3 ga 24 #[.int .i64 0, .int .i64 nn] := (o3.block ga HA2.lt hga2).trans HA2
        have b3 := b2.trans (o3.below hg2 b2.size)
        have d1 := HA3.cell 1
        have ok3 := tick_ok ok nn
        clear hp2 hb2 HA2 b2 o3 ok
        go_wp2_with fail
        ((with_reducible refine (Dn.ans (same10 g g' r u (tickN r u l nn) nn _ hp3 hb3 ok3 hn64)).mono ?_); rintro e W4 ⟨rfl, d4⟩)
        have hp4 := hp3.on d4
        have hb4 := hb3.on d4
        have b4 := b3.trans (d4.mono b3.size)
        clear hp3 hb3 b3 d1 HA3 d4
        go_wp2_with fail
        ((with_reducible refine (Dn.ans (same10 g g' r u (tickN r u l nn) (q : Int) _ hp4 hb4 ok3 (by unfold I64; omega))).mono ?_); rintro e W5 ⟨rfl, d5⟩)
        have hp5 := hp4.on d5
        have hb5 := hb4.on d5
        have b5 := b4.trans (d5.mono b4.size)
        clear hp4 hb4 b4 d5
        go_wp2_with fail
        go_roundw
        case rel => exact ⟨q + 1, by omega, by omega, by go_num, Lib.hid ⟨_, _, hp5, hb5, ok3, b5⟩⟩
        case measure => simp [intOf]; omega
      have j0 : ((kd : Int) == 0) = false := by rw [beq_eq_false_iff_ne]; exact k0
      by_cases k1 : kd = 1
      · subst k1
        go_wp2_with fail
        ((with_reducible refine (pk_tick g r u l nn _ hp ok hn64).mono ?_); rintro e W2 ⟨rfl, hp2, o2⟩)
        have hb2 := hb.only o2 hne.symm
        have HA2 : Blk W2 ga 24 #[.int .i64 1, .int .i64 nn] := (o2.block ga HA.lt hga1).trans HA
        have b2 := b.trans (o2.below hg1 b.size)
        have d1 := HA2.cell 1
        clear hp hb HA b d0 o2
        go_wp2_with fail
        ((with_reducible refine (ref_tick g' r u l nn _ hb2 ok hn64).mono ?_); rintro e W3 ⟨rfl, hb3, o3⟩)
        have hp3 := hp2.only o3 hne
        have HA3 : Blk W3 ga 24 #[.int .i64 1, .int .i64 nn] := (o3.block ga HA2.lt hga2).trans HA2
        have b3 := b2.trans (o3.below hg2 b2.size)
        have d1 := HA3.cell 1
        have ok3 := tick_ok ok nn
        clear hp2 hb2 HA2 b2 o3 ok
        go_wp2_with fail
        ((with_reducible refine (Dn.ans (same10 g g' r u (tickN r u l nn) nn _ hp3 hb3 ok3 hn64)).mono ?_); rintro e W4 ⟨rfl, d4⟩)
        have hp4 := hp3.on d4
        have hb4 := hb3.on d4
        have b4 := b3.trans (d4.mono b3.size)
        clear hp3 hb3 b3 d1 HA3 d4
        go_wp2_with fail
        ((with_reducible refine (Dn.ans (same10 g g' r u (tickN r u l nn) (q : Int) _ hp4 hb4 ok3 (by unfold I64; omega))).mono ?_); rintro e W5 ⟨rfl, d5⟩)
        have hp5 := hp4.on d5
        have hb5 := hb4.on d5
        have b5 := b4.trans (d5.mono b4.size)
        clear hp4 hb4 b4 d5
        go_wp2_with fail
        go_roundw
        case rel => exact ⟨q + 1, by omega, by omega, by go_num, Lib.hid ⟨_, _, hp5, hb5, ok3, b5⟩⟩
        case measure => simp [intOf]; omega
      have j1 : ((kd : Int) == 1) = false := by rw [beq_eq_false_iff_ne]; exact k1
      by_cases k5 : kd = 5
      · subst k5
        clear j0 j1 k0 k1
        go_wp2_with fail
        ((with_reducible refine (pk_rate g r u l nn _ hp hn64).mono ?_); rintro e W2 ⟨rfl, hp2, o2⟩)
        have hb2 := hb.only o2 hne.symm
        have HA2 : Blk W2 ga 24 #[.int .i64 5, .int .i64 nn] := (o2.block ga HA.lt hga1).trans HA
        have b2 := b.trans (o2.below hg1 b.size)
        have d1 := HA2.cell 1
        clear hp hb HA b d0 o2
        go_wp2_with fail
        ((with_reducible refine (ref_set g' r u l nn _ hb2 hn64).mono ?_); rintro e W3 ⟨rfl, hb3, o3⟩)
        have hp3 := hp2.only o3 hne
        have HA3 : Blk W3 ga 24 #[.int .i64 5, .int .i64 nn] := (o3.block ga HA2.lt hga2).trans HA2
        have b3 := b2.trans (o3.below hg2 b2.size)
        have d1 := HA3.cell 1
        have ok3 := rate_ok ok nn
        clear hp2 hb2 HA2 b2 o3 ok
        go_wp2_with fail
        ((with_reducible refine (Dn.ans (same10 g g' (heldN nn) u l nn _ hp3 hb3 ok3 hn64)).mono ?_); rintro e W4 ⟨rfl, d4⟩)
        have hp4 := hp3.on d4
        have hb4 := hb3.on d4
        have b4 := b3.trans (d4.mono b3.size)
        clear hp3 hb3 b3 d1 HA3 d4
        go_wp2_with fail
        ((with_reducible refine (Dn.ans (same10 g g' (heldN nn) u l (q : Int) _ hp4 hb4 ok3 (by unfold I64; omega))).mono ?_); rintro e W5 ⟨rfl, d5⟩)
        have hp5 := hp4.on d5
        have hb5 := hb4.on d5
        have b5 := b4.trans (d5.mono b4.size)
        clear hp4 hb4 b4 d5
        go_wp2_with fail
        go_roundw
        case rel => exact ⟨q + 1, by omega, by omega, by go_num, Lib.hid ⟨_, _, hp5, hb5, ok3, b5⟩⟩
        case measure => simp [intOf]; omega
      have j5 : ((kd : Int) == 5) = false := by rw [beq_eq_false_iff_ne]; exact k5
      clear k0 k1 k5
      go_upto_region 9 with (fail)
      have HTAIL := Lib.hid ok
      refine wp_region_s (F := tkF w ga kd nn) (fun i => i == 3 || i == 7) (fun i W => if i = 3 then PkAt W g r u l else BkAt W g' r u l) 8
        [.val (.pointer (some ⟨g, 0, none⟩)), .val (.pointer (some ⟨ga, 1, none⟩)), .val (.int .i64 nn), tkP w ga kd nn g r u l, .val (.pointer (some ⟨g', 0, none⟩)), .val (.pointer (some ⟨ga, 1, none⟩)), .val (.int .i64 nn), tkB w ga kd nn g' r u l]
        (by kernel_rfl) (by kernel_rfl) (by kernel_rfl) (by decide) (by kernel_rfl) ((tkF w ga kd nn).drew W ⟨b, HA⟩).1 (fun i hi => ?_) (fun i x y _ _ hf _ hp' => ?_) (AllOblS.upto ⟨?_, ?_, ?_, ?_, ?_, ?_, ?_, ?_, trivial⟩) ?_ ?_
      · by_cases h3 : i = 3
        · simp only [h3, if_true]
          exact hp.on (belowDrewN W 1)
        · simp only [h3, if_false]
          exact hb.on (belowDrewN W 1)
      · by_cases h3 : i = 3
        · simp only [h3, if_true] at hp' ⊢
          exact hp'.on hf
        · simp only [h3, if_false] at hp' ⊢
          exact hp'.on hf
      · intro _
        exact OblS.move rfl _ (Or.inl rfl) (by kernel_rfl) rfl
      · intro _
        refine OblS.pure rfl (.pointer (some ⟨ga, 1, none⟩)) (by kernel_rfl) rfl fun ev W hI hx => ?_
        have e10 : ev (.tmp 10) = .pointer (some ⟨ga, 0, none⟩) := holds_valF (hx (.tmp 10)) (by kernel_rfl)
        simp [execOp, e10, go_sem]
      · intro _
        refine OblS.pure rfl (.int .i64 nn) (by kernel_rfl) rfl fun ev W hI hx => ?_
        have e36 : ev (.tmp 36) = .pointer (some ⟨ga, 1, none⟩) := holds_valF (hx (.tmp 36)) (by kernel_rfl)
        have d4 : W.cell? ⟨ga, 1, none⟩ = some (.int .i64 nn) := hI.2.cell 1
        simp [execOp, e36, go_sem, d4]
      · exact fun hh => absurd hh (by decide)
      · intro _
        exact OblS.move rfl _ (Or.inl rfl) (by kernel_rfl) rfl
      · intro _
        refine OblS.pure rfl (.pointer (some ⟨ga, 1, none⟩)) (by kernel_rfl) rfl fun ev W hI hx => ?_
        have e10 : ev (.tmp 10) = .pointer (some ⟨ga, 0, none⟩) := holds_valF (hx (.tmp 10)) (by kernel_rfl)
        simp [execOp, e10, go_sem]
      · intro _
        refine OblS.pure rfl (.int .i64 nn) (by kernel_rfl) rfl fun ev W hI hx => ?_
        have e40 : ev (.tmp 40) = .pointer (some ⟨ga, 1, none⟩) := holds_valF (hx (.tmp 40)) (by kernel_rfl)
        have d4 : W.cell? ⟨ga, 1, none⟩ = some (.int .i64 nn) := hI.2.cell 1
        simp [execOp, e40, go_sem, d4]
      · exact fun hh => absurd hh (by decide)
      · intro i oo him hsp hoo
        have hi37 : i = 3 ∨ i = 7 := by simpa using hsp
        rcases hi37 with hi2 | hi2
        · subst hi2
          obtain rfl := (Option.some.inj hoo).symm
          refine OblX.call rfl 13 #[.tmp 35, .tmp 37] _ rfl Try.f13 Try.func13 (by kernel_rfl) (by kernel_rfl) rfl fun ev W hI hpre hx => ?_
          have hpre : PkAt W g r u l := hpre
          have e35 : ev (.tmp 35) = .pointer (some ⟨g, 0, none⟩) := holds_valF (hx (.tmp 35)) (by kernel_rfl)
          have e37 : ev (.tmp 37) = .int .i64 nn := holds_valF (hx (.tmp 37)) (by kernel_rfl)
          simp only [List.map_toArray, List.map_cons, List.map_nil, e35, e37]
          refine (pk_take g r u l nn W hpre HTAIL.out hn64).mono ?_
          rintro e W' ⟨rfl, hp', o'⟩
          refine ⟨_, rfl, ⟨hI.1.trans (o'.below hg1 hI.1.size), (o'.block ga hI.2.lt hga1).trans hI.2⟩, ?_, ?_, ⟨rfl, hp'⟩⟩
          · intro j uu hj hh
            by_cases hj9 : j < 8
            · have : j = 7 ∨ j = 0 ∨ j = 1 ∨ j = 2 ∨ j = 4 ∨ j = 5 ∨ j = 6 := by omega
              rcases this with rfl | rfl | rfl | rfl | rfl | rfl | rfl
              · exact ⟨hh.1, BkAt.only hh.2 o' hne.symm⟩
              all_goals exact hh
            · rw [tbl_outF (n := 8) rfl (by omega)]
              trivial
          · intro j hj hsj hpj
            simp only [hj, if_false] at hpj ⊢
            exact BkAt.only hpj o' hne.symm
        · subst hi2
          obtain rfl := (Option.some.inj hoo).symm
          refine OblX.call rfl 21 #[.tmp 39, .tmp 41] _ rfl Try.f21 Try.func21 (by kernel_rfl) (by kernel_rfl) rfl fun ev W hI hpre hx => ?_
          have hpre : BkAt W g' r u l := hpre
          have e39 : ev (.tmp 39) = .pointer (some ⟨g', 0, none⟩) := holds_valF (hx (.tmp 39)) (by kernel_rfl)
          have e41 : ev (.tmp 41) = .int .i64 nn := holds_valF (hx (.tmp 41)) (by kernel_rfl)
          simp only [List.map_toArray, List.map_cons, List.map_nil, e39, e41]
          refine (ref_take g' r u l nn W hpre HTAIL.out hn64).mono ?_
          rintro e W' ⟨rfl, hp', o'⟩
          refine ⟨_, rfl, ⟨hI.1.trans (o'.below hg2 hI.1.size), (o'.block ga hI.2.lt hga2).trans hI.2⟩, ?_, ?_, ⟨rfl, hp'⟩⟩
          · intro j uu hj hh
            by_cases hj9 : j < 8
            · have : j = 3 ∨ j = 0 ∨ j = 1 ∨ j = 2 ∨ j = 4 ∨ j = 5 ∨ j = 6 := by omega
              rcases this with rfl | rfl | rfl | rfl | rfl | rfl | rfl
              · exact ⟨hh.1, PkAt.only hh.2 o' hne⟩
              all_goals exact hh
            · rw [tbl_outF (n := 8) rfl (by omega)]
              trivial
          · intro j hj hsj hpj
            have hj3 : j = 3 := by
              have : j = 3 ∨ j = 7 := by simpa using hsj
              omega
            subst hj3
            simp only [if_true] at hpj ⊢
            exact PkAt.only hpj o' hne
      intro aa W3 hI hsz hdf hold hv
      have v38 := tkP_of (hv 3 (by decide)) rfl
      have v42 := tkB_of (hv 7 (by decide)) rfl
      have ha := act_puts [35, 36, 37, 38, 39, 40, 41, 42, 43] (by kernel_rfl) hsz hdf hold
      have w38 : aa.tmps.getD 38 undef = .bool (takeB l nn) := v38.1
      have w42 : aa.tmps.getD 42 undef = .bool (takeB l nn) := v42.1
      have hp3 := v38.2
      have hb3 := v42.2
      simp only [putAll, w38, w42] at ha
      generalize aa.tmps.getD 35 undef = x35 at ha
      generalize aa.tmps.getD 36 undef = x36 at ha
      generalize aa.tmps.getD 37 undef = x37 at ha
      generalize aa.tmps.getD 39 undef = x39 at ha
      generalize aa.tmps.getD 40 undef = x40 at ha
      generalize aa.tmps.getD 41 undef = x41 at ha
      generalize aa.tmps.getD 43 undef = x43 at ha
      clear v38 v42 w38 w42 hv hold hsz hdf
      subst ha
      simp only [List.toList_toArray, List.drop_succ_cons, List.drop_zero, Act.put, List.setIfInBounds_toArray, List.set_cons_succ, List.set_cons_zero]
      obtain ⟨b3, HA3⟩ := hI
      have ok3 := take_ok HTAIL.out nn
      clear hp hb HA b d0 d1 ok
      have d1 := HA3.cell 1
      go_wp2_with fail
      ((with_reducible refine (Dn.ans (same10 g g' r u (takeL l nn) nn _ hp3 hb3 ok3 hn64)).mono ?_); rintro e W4 ⟨rfl, d4⟩)
      have hp4 := hp3.on d4
      have hb4 := hb3.on d4
      have b4 := b3.trans (d4.mono b3.size)
      clear hp3 hb3 b3 d1 HA3 d4
      go_wp2_with fail
      ((with_reducible refine (Dn.ans (same10 g g' r u (takeL l nn) (q : Int) _ hp4 hb4 ok3 (by unfold I64; omega))).mono ?_); rintro e W5 ⟨rfl, d5⟩)
      have hp5 := hp4.on d5
      have hb5 := hb4.on d5
      have b5 := b4.trans (d5.mono b4.size)
      clear hp4 hb4 b4 d5
      go_wp2_with fail
      go_roundw
      case rel => exact ⟨q + 1, by omega, by omega, by go_num, Lib.hid ⟨_, _, hp5, hb5, ok3, b5⟩⟩
      case measure => simp [intOf]; omega
    · have HS : Hid (¬ (q < n ∧ q < 100)) := Lib.hid hlt
      clear hlt
      obtain ⟨r, l, hp, hb, ok, hbw⟩ := HP.out
      clear HP
      by_cases hl1 : q < n
      · have hl2 : ¬ q < 100 := fun h => HS.out ⟨hl1, h⟩
        have g1 : decide ((q : Int) < (n : Int)) = true := by simp; omega
        have g2 : decide ((q : Int) < 100) = false := by simp; omega
        clear HS
        go_wp2_with fail
        ((with_reducible refine (Dn.ans (same10 g g' r u l 1 _ hp hb ok I1.out)).mono ?_); rintro e W4 ⟨rfl, d4⟩)
        have hp4 := hp.on d4
        have hb4 := hb.on d4
        have b4 := hbw.trans (d4.mono hbw.size)
        clear hp hb hbw d4
        go_wp2_with fail
        ((with_reducible refine (Dn.ans (same10 g g' r u l b _ hp4 hb4 ok HB.out)).mono ?_); rintro e W5 ⟨rfl, d5⟩)
        have b5 := b4.trans (d5.mono b4.size)
        clear hp4 hb4 b4 d5
        go_wp2_with fail
        go_ret
        exact ⟨rfl, b5⟩
      · have g1 : decide ((q : Int) < (n : Int)) = false := by simp; omega
        clear HS
        go_wp2_with fail
        ((with_reducible refine (Dn.ans (same10 g g' r u l 1 _ hp hb ok I1.out)).mono ?_); rintro e W4 ⟨rfl, d4⟩)
        have hp4 := hp.on d4
        have hb4 := hb.on d4
        have b4 := hbw.trans (d4.mono hbw.size)
        clear hp hb hbw d4
        go_wp2_with fail
        ((with_reducible refine (Dn.ans (same10 g g' r u l b _ hp4 hb4 ok HB.out)).mono ?_); rintro e W5 ⟨rfl, d5⟩)
        have b5 := b4.trans (d5.mono b4.size)
        clear hp4 hb4 b4 d5
        go_wp2_with fail
        go_ret
        exact ⟨rfl, b5⟩
end Go.Proofs.Ytiacdjnaefnhpaa
