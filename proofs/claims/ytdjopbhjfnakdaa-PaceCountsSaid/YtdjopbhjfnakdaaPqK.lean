/- Law 11's helper: known. -/
import Derived.Test.YtdjopbhjfnakdaaPqP
namespace Go.Proofs.Ytdjopbhjfnakdaa
open Go.RowKit
set_option linter.unusedVariables false
set_option linter.unusedSimpArgs false
set_option maxRecDepth 20000

/-- So many noughts. -/
def nz (n : Nat) : List UInt8 := List.replicate n 0
theorem nz_len (n : Nat) : (nz n).length = n := by simp [nz]
theorem putQ_yes {u : Nat} {Q : Row8} {x : List UInt8} (h : putB u Q x = true) : putQ u Q x = Q ++ [x] := by unfold putQ; rw [h]; rfl
theorem putQ_no {u : Nat} {Q : Row8} {x : List UInt8} (h : putB u Q x = false) : putQ u Q x = Q := by unfold putQ; rw [h]; rfl
theorem putC_yes {u cut : Nat} {Q : Row8} {x : List UInt8} (h : putB u Q x = true) : putC u Q x cut = cut := by unfold putC; rw [h]; rfl
theorem putC_no {u cut : Nat} {Q : Row8} {x : List UInt8} (h : putB u Q x = false) : putC u Q x cut = cut + 1 := by unfold putC; rw [h]; rfl
/-- Put, told by its answers. -/
theorem pq_put_at {w : World} {G gb r u l : Nat} {Q : Row8} {cut : Nat} {S : Nat → Prop} (h : PqAt w G gb r u l Q cut S) (ok : BkOk r u l) (hQ : QuOk u Q) (hcut : cut ≤ 1000000) {A : Option Addr} {n c : Nat} {x : List UInt8} (hx : R8 w w.heap.size A n c x) (hn : n ≤ 100000) {b : Bool} {Q' : Row8} {cut' : Nat} (h1 : putB u Q x = b) (h2 : putQ u Q x = Q') (h3 : putC u Q x cut = cut') :
    Calls Try.prog 9 #[.pointer (some ⟨G, 0, none⟩), .slice A n c] w (PqOut G gb r u l Q' cut' S (.bool b) w) := by
  subst h1 h2 h3
  exact pq_put h ok hQ hcut hx hn
/-- In the region that puts two. -/
def knF (w0 : World) (B : Nat) : Frame where
  I := fun W => Below w0.heap.size w0 W ∧ B ≤ W.heap.size
  Fr := fun a b => Below a.heap.size a b
  refl := fun w _ => Below.refl _ w
  trans := fun a b c h k => h.trans (k.mono h.size)
  drew := fun W h => ⟨⟨h.1.trans ((belowDrewN W 1).mono h.1.size), h.2⟩, belowDrewN W 1⟩
def mkN (w0 : World) (B n : Nat) : ClF (knF w0 B) := .pred (fun v W => ∃ g, v = .slice (some ⟨g, 0, none⟩) n n ∧ B ≤ g ∧ Blk W g 5 ((nz n).map bv).toArray) (fun v a b _ hf _ h => by
  obtain ⟨g, e, h1, h2⟩ := h
  exact ⟨g, e, h1, (hf.block g h2.lt).trans h2⟩)
def ptN (w0 : World) (B : Nat) (G gb r u l : Nat) (Q : Row8) (cut : Nat) (bo : Bool) : ClF (knF w0 B) := .pred (fun v W => v = .bool bo ∧ ∃ S, PqAt W G gb r u l Q cut S ∧ ∀ k, S k → w0.heap.size ≤ k) (fun v a b _ hf _ h => by
  obtain ⟨e, S, h1, h2⟩ := h
  exact ⟨e, S, h1.keep (OnlyS.of (S := fun _ => False) hf) (fun _ _ h => h), h2⟩)
theorem mkN_of {w0 : World} {B n : Nat} {c : ClF (knF w0 B)} {v : Value} {W : World} (h : c.holds v W) (e : c = mkN w0 B n) : ∃ g, v = .slice (some ⟨g, 0, none⟩) n n ∧ B ≤ g ∧ Blk W g 5 ((nz n).map bv).toArray := by subst e; exact h
theorem ptN_of {w0 : World} {B G gb r u l : Nat} {Q : Row8} {cut : Nat} {bo : Bool} {c : ClF (knF w0 B)} {v : Value} {W : World} (h : c.holds v W) (e : c = ptN w0 B G gb r u l Q cut bo) : v = .bool bo ∧ ∃ S, PqAt W G gb r u l Q cut S ∧ ∀ k, S k → w0.heap.size ≤ k := by subst e; exact h
theorem per_pt {w0 : World} {B G gb r u l : Nat} {Q : Row8} {cut : Nat} {bo : Bool} {v : Value} {W : World} (h : (ptN w0 B G gb r u l Q cut bo).holds v W) : v = .bool bo := h.1
set_option maxHeartbeats 8000000 in
theorem known11_any (w : World) : Calls Try.prog 12 #[] w (Yes w) := by
  have IC := Lib.hid (fun (k : Int) (h1 : -100000 ≤ k) (h2 : k ≤ 100000) => (by unfold I64; omega : I64 k))
  go_enter Try.func12, Try.ntmps12
  go_wp2_with fail
  refine (pq_new 0 100 (IC.out _ (by omega) (by omega)) (IC.out _ (by omega) (by omega)) _).mono ?_
  rintro e w1 ⟨G, gb, S, rfl, p0, hS, b0⟩
  rw [show heldN 0 = 0 by decide, show heldN 100 = 100 by decide] at p0
  rw [show 100 * 1000000 = 100000000 by decide] at p0
  go_upto_region 4 with (fail)
  have p1 := p0.keep (OnlyS.of (S := fun _ => False) (belowDrewN w1 1)) (fun _ _ h => h)
  have hSlt : ∀ k, S k → k < w1.heap.size := fun k hk => p0.lt hk
  have ok : BkOk 0 100 100000000 := ⟨by omega, by omega, by omega⟩
  have OK := Lib.hid ok
  have hlo : w.heap.size ≤ w1.heap.size := b0.size
  have z73 : putB 100 [] (nz 73) = false := by decide
  have z10 : putB 100 [] (nz 10) = true := by decide
  have hm73 : ∀ W, (Instr.makeSlice 29 (.int .i64 73) (.int .i64 73)).run Try.prog W = .ok (.slice (some ⟨W.heap.size, 0, none⟩) 73 73) (W.alloc (.cells ((nz 73).map bv).toArray 5)) := fun W => run_make8 73 (by omega) W
  have hm10 : ∀ W, (Instr.makeSlice 29 (.int .i64 10) (.int .i64 10)).run Try.prog W = .ok (.slice (some ⟨W.heap.size, 0, none⟩) 10 10) (W.alloc (.cells ((nz 10).map bv).toArray 5)) := fun W => run_make8 10 (by omega) W
  have qok : QuOk 100 [] := ⟨by simp, by simp⟩
  refine wp_region_d (F := knF w w1.heap.size) (fun j v => (j = 2 → v = .bool false) ∧ (j = 5 → v = .bool true)) (fun k j => (k == 2 && j == 1) || (k == 5 && (j == 1 || j == 2 || j == 4))) (fun i => i == 2 || i == 5) (fun i W => if i = 2 then PqAt W G gb 0 100 100000000 [] 0 S ∧ w1.heap.size ≤ W.heap.size else True) 6
    [.val (.pointer (some ⟨G, 0, none⟩)), mkN w w1.heap.size 73, ptN w w1.heap.size G gb 0 100 100000000 [] 1 false, .val (.pointer (some ⟨G, 0, none⟩)), mkN w w1.heap.size 10, ptN w w1.heap.size G gb 0 100 100000000 [nz 10] 1 true]
    (fun j v W h => ⟨fun e => by subst e; exact per_pt h, fun e => by subst e; exact per_pt h⟩) (by kernel_rfl) (by kernel_rfl) (by kernel_rfl) (by decide) (by kernel_rfl) ⟨b0.trans ((belowDrewN w1 1).mono hlo), Nat.le_refl _⟩ (fun i hi => ?_) (fun i x y _ _ hf _ hp' => ?_) (AllOblD.upto ⟨?_, ?_, ?_, ?_, ?_, ?_, trivial⟩) ?_ ?_
  · by_cases h2 : i = 2
    · simp only [h2, if_true]
      exact ⟨p1, Nat.le_refl _⟩
    · simp only [h2, if_false]
  · by_cases h2 : i = 2
    · simp only [h2, if_true] at hp' ⊢
      exact ⟨hp'.1.keep (OnlyS.of (S := fun _ => False) hf) (fun _ _ h => h), Nat.le_trans hp'.2 hf.size⟩
    · simp only [h2, if_false]
  · intro _
    exact OblD.move rfl _ (Or.inl rfl) (by kernel_rfl) rfl
  · intro _
    refine OblD.step rfl fun ev W hI hx => ⟨.slice (some ⟨W.heap.size, 0, none⟩) 73 73, W.alloc (.cells ((nz 73).map bv).toArray 5), ?_, ⟨hI.1.trans ((belowA W _).mono hI.1.size), Nat.le_trans hI.2 (belowA W _).size⟩, belowA W _, ⟨W.heap.size, rfl, hI.2, Blk.new _ _ _⟩⟩
    have ec : ev (.const (.int .i64 73)) = .int .i64 73 := holds_valF (hx (.const (.int .i64 73))) rfl
    simp [execOp, ec, hm73]
  · exact fun hh => absurd hh (by decide)
  · intro _
    exact OblD.move rfl _ (Or.inl rfl) (by kernel_rfl) rfl
  · intro _
    refine OblD.step rfl fun ev W hI hx => ⟨.slice (some ⟨W.heap.size, 0, none⟩) 10 10, W.alloc (.cells ((nz 10).map bv).toArray 5), ?_, ⟨hI.1.trans ((belowA W _).mono hI.1.size), Nat.le_trans hI.2 (belowA W _).size⟩, belowA W _, ⟨W.heap.size, rfl, hI.2, Blk.new _ _ _⟩⟩
    have ec : ev (.const (.int .i64 10)) = .int .i64 10 := holds_valF (hx (.const (.int .i64 10))) rfl
    simp [execOp, ec, hm10]
  · exact fun hh => absurd hh (by decide)
  · intro i oo him hsp hoo
    have hi2 : i = 2 ∨ i = 5 := by simpa using hsp
    rcases hi2 with hi2 | hi2
    · subst hi2
      obtain rfl := (Option.some.inj hoo).symm
      refine OblDX.call rfl 9 #[.tmp 11, .tmp 12] _ rfl Try.f9 Try.func9 (by kernel_rfl) (by kernel_rfl) rfl fun ev W hI hpre hx => ?_
      have hpre : PqAt W G gb 0 100 100000000 [] 0 S ∧ w1.heap.size ≤ W.heap.size := hpre
      have e11 : ev (.tmp 11) = .pointer (some ⟨G, 0, none⟩) := holds_valF (hx (.tmp 11)) (by kernel_rfl)
      obtain ⟨g1, e12, hg1, hb1⟩ := mkN_of (n := 73) (hx (.tmp 12)) (by kernel_rfl)
      simp only [List.map_toArray, List.map_cons, List.map_nil, e11, e12]
      refine (pq_put_at hpre.1 OK.out qok (by omega) (hb1.r8 (nz_len 73) (Nat.le_refl _)) (by omega) z73 (putQ_no z73) (putC_no z73)).mono ?_
      rintro e W' ⟨rfl, S', hp', hS', ho'⟩
      refine ⟨_, rfl, ⟨hI.1.trans (ho'.below hS hI.1.size), Nat.le_trans hI.2 ho'.size⟩, ?_, ?_, ⟨rfl, S', hp', fun k hk => ?_⟩⟩
      · intro j uu hj hd hdep hh
        by_cases hj9 : j < 6
        · have : j = 4 ∨ j = 5 ∨ j = 1 ∨ j = 0 ∨ j = 3 := by omega
          rcases this with rfl | rfl | rfl | rfl | rfl
          · obtain ⟨g4, e4, hg4, hb4⟩ := mkN_of (n := 10) hh rfl
            exact ⟨g4, e4, hg4, (ho'.block g4 hb4.lt (fun hs => by have := hSlt _ hs; omega)).trans hb4⟩
          · exact absurd ((hdep.symm).trans (by kernel_rfl : _ = true)) (by decide)
          · exact absurd hd (by decide)
          all_goals exact hh
        · rw [tbl_outF (n := 6) rfl (by omega)]
          trivial
      · intro j hj hsj hdn hpj
        simp only [hj, if_false]
      · rcases hS' k hk with h1 | h1
        · exact hS k h1
        · exact Nat.le_trans hI.1.size h1
    · subst hi2
      obtain rfl := (Option.some.inj hoo).symm
      refine OblDX.callD rfl 9 #[.tmp 14, .tmp 15] _ rfl Try.f9 Try.func9 (by kernel_rfl) (by kernel_rfl) rfl fun aw W hI hpre hx hdp => ?_
      have e14 : aw.eval (.tmp 14) = .pointer (some ⟨G, 0, none⟩) := holds_valF (hx (.tmp 14)) (by kernel_rfl)
      obtain ⟨g4, e15, hg4, hb4⟩ := mkN_of (n := 10) (hx (.tmp 15)) (by kernel_rfl)
      obtain ⟨_, S1, hp1, hS1⟩ := ptN_of (Q := []) (cut := 1) (bo := false) (G := G) (gb := gb) (r := 0) (u := 100) (l := 100000000) (hdp 2 (by decide) (by kernel_rfl) (by kernel_rfl)) (by kernel_rfl)
      simp only [List.map_toArray, List.map_cons, List.map_nil, e14, e15]
      refine (pq_put_at hp1 OK.out qok (by omega) (hb4.r8 (nz_len 10) (Nat.le_refl _)) (by omega) z10 (putQ_yes z10) (putC_yes z10)).mono ?_
      rintro e W' ⟨rfl, S', hp', hS', ho'⟩
      refine ⟨_, rfl, ⟨hI.1.trans (ho'.below hS1 hI.1.size), Nat.le_trans hI.2 ho'.size⟩, ?_, ?_, ⟨rfl, S', hp', fun k hk => ?_⟩⟩
      · intro j uu hj hd hdep hh
        by_cases hj9 : j < 6
        · have : j = 1 ∨ j = 2 ∨ j = 4 ∨ j = 0 ∨ j = 3 := by omega
          rcases this with rfl | rfl | rfl | rfl | rfl
          · exact absurd hd (by decide)
          · exact absurd hd (by decide)
          · exact absurd hd (by decide)
          all_goals exact hh
        · rw [tbl_outF (n := 6) rfl (by omega)]
          trivial
      · intro j hj hsj hdn hpj
        have hj2 : j = 2 := by
          have : j = 2 ∨ j = 5 := by simpa using hsj
          omega
        subst hj2
        exact absurd ((hdn.symm).trans (by kernel_rfl : _ = true)) (by decide)
      · rcases hS' k hk with h1 | h1
        · exact hS1 k h1
        · exact Nat.le_trans hI.1.size h1
  intro aa W3 hI hsz hdf hold hv hpv
  have w13 : aa.tmps.getD 13 undef = .bool false := (hpv 2 (by decide)).1 rfl
  have w16 : aa.tmps.getD 16 undef = .bool true := (hpv 5 (by decide)).2 rfl
  obtain ⟨_, S3, p3, hS3⟩ := ptN_of (Q := [nz 10]) (cut := 1) (bo := true) (G := G) (gb := gb) (r := 0) (u := 100) (l := 100000000) (hv 5 (by decide) (by intro k; simp)) (by kernel_rfl)
  have ha := act_puts [11, 12, 13, 14, 15, 16, 2, 3] (by kernel_rfl) hsz hdf hold
  simp only [putAll, w13, w16] at ha
  generalize aa.tmps.getD 11 undef = x11 at ha
  generalize aa.tmps.getD 12 undef = x12 at ha
  generalize aa.tmps.getD 14 undef = x14 at ha
  generalize aa.tmps.getD 15 undef = x15 at ha
  generalize aa.tmps.getD 2 undef = x2 at ha
  generalize aa.tmps.getD 3 undef = x3 at ha
  clear w13 w16 hv hpv hold hsz hdf
  subst ha
  simp only [List.toList_toArray, List.drop_succ_cons, List.drop_zero, Act.put, List.setIfInBounds_toArray, List.set_cons_succ, List.set_cons_zero]
  have b3 := hI.1
  clear hI p0 p1 hS hSlt ok hlo z73 z10 hm73 hm10 qok b0
  have ok : BkOk 0 100 100000000 := OK.out
  have qk10 : QuOk 100 [nz 10] := ⟨by simp, by simp [costN, nz]⟩
  have hlo3 := b3.size
  go_wp2_with fail
  ((with_reducible refine (pq_len p3).mono ?_); rintro e W4 hd)
  have d4 := hd.below
  obtain ⟨rfl, _⟩ := hd
  have p4 := p3.keep (OnlyS.of (S := fun _ => False) d4) (fun _ _ h => h)
  have b4 := b3.trans (d4.mono b3.size)
  clear p3 b3 d4 hlo3
  go_wp2_with fail
  ((with_reducible refine (pq_go p4 ok qk10 (by simp [nz])).mono ?_); rintro e W5 ⟨Ao, no, co, S5, F, rfl, rb, hF, p5, hS5, ho5, hFS⟩)
  have hg1 : goO 100000000 [nz 10] = [nz 10] := by decide
  have hg2 : goR 100000000 [nz 10] = [] := by decide
  have hg3 : goL 100000000 [nz 10] = 62000000 := by decide
  rw [hg1] at rb
  rw [hg2, hg3] at p5
  have b5 := b4.trans (ho5.below hS3 b4.size)
  have hlo5 : ∀ k, S5 k → w.heap.size ≤ k := fun k hk => by
    rcases hS5 k hk with h1 | h1
    · exact hS3 k h1
    · exact Nat.le_trans b4.size h1
  have hn1 : no = 1 := rb.1.symm
  subst hn1
  have HB := Lib.hid (⟨rb, hFS, b5.size⟩ : _ ∧ _ ∧ _)
  have hm70 : ∀ W, (Instr.makeSlice 29 (.int .i64 70) (.int .i64 70)).run Try.prog W = .ok (.slice (some ⟨W.heap.size, 0, none⟩) 70 70) (W.alloc (.cells ((nz 70).map bv).toArray 5)) := fun W => run_make8 70 (by omega) W
  have bA := belowA W5 (.cells ((nz 70).map bv).toArray 5)
  have p6 := p5.keep (OnlyS.of (S := fun _ => False) bA) (fun _ _ h => h)
  have hb6 : Blk (W5.alloc (.cells ((nz 70).map bv).toArray 5)) W5.heap.size 5 ((nz 70).map bv).toArray := Blk.new _ _ _
  have b6 := b5.trans (bA.mono b5.size)
  have z70 : putB 100 [] (nz 70) = true := by decide
  have qk0 : QuOk 100 [] := ⟨by simp, by simp⟩
  have ok6 : BkOk 0 100 62000000 := ⟨by omega, by omega, by omega⟩
  have hp := pq_put_at p6 ok6 qk0 (by omega) (hb6.r8 (nz_len 70) (Nat.le_refl _)) (by omega) z70 (putQ_yes z70) (putC_yes z70)
  have rb6 := rb.on bA
  have H6 := Lib.hid (⟨rb6, b6, bA⟩ : _ ∧ _ ∧ _)
  clear p4 b4 rb hF hS5 ho5 hFS p5 b5 p6 hb6 b6 bA rb6
  go_wp2_with fail
  ((with_reducible refine hp.mono ?_); rintro e W7 ⟨rfl, S7, p7, hS7, ho7⟩)
  obtain ⟨rb6, b6, bA⟩ := H6.out
  have hFS := HB.out.2.1
  have hFlt := HB.out.1.2.2.1
  have rb7 := rb6.keep ho7 (fun k hk hs => hFS k hk hs)
  have hFS7 : ∀ k, F k → ¬ S7 k := fun k hk hs => by
    rcases hS7 k hs with h1 | h1
    · exact hFS k hk h1
    · have := hFlt k hk
      have := bA.size
      omega
  have b7 := b6.trans (ho7.below hlo5 b6.size)
  have hlo7 : ∀ k, S7 k → w.heap.size ≤ k := fun k hk => by
    rcases hS7 k hk with h1 | h1
    · exact hlo5 k h1
    · exact Nat.le_trans b6.size h1
  have qk70 : QuOk 100 ([] ++ [nz 70]) := ⟨by simp, by simp [costN, nz]⟩
  have hp8 := pq_go p7 ok6 qk70 (by simp [nz])
  clear hp rb6 b6 bA hm70 ho7 hS7 p7
  go_wp2_with fail
  ((with_reducible refine hp8.mono ?_); rintro e W8 ⟨Am, nm, cm, S8, F8, rfl, rm, _, p8, hS8, ho8, _⟩)
  have hg4 : goO 62000000 ([] ++ [nz 70]) = [] := by decide
  have hg5 : goR 62000000 ([] ++ [nz 70]) = [nz 70] := by decide
  have hg6 : goL 62000000 ([] ++ [nz 70]) = 62000000 := by decide
  rw [hg4] at rm
  rw [hg5, hg6] at p8
  have hnm : nm = 0 := rm.1.symm
  subst hnm
  have rb8 := rb7.keep ho8 (fun k hk hs => hFS7 k hk hs)
  have b8 := b7.trans (ho8.below hlo7 b7.size)
  obtain ⟨bo, off, rfl, _, hcc⟩ := rb8.2.2.2 (by omega)
  obtain ⟨Ai, ni, ci, c0, r0, _⟩ := hcc 0 (by omega)
  have hni : ni = 10 := by have := r0.1; simpa [nz] using this.symm
  subst hni
  have c0 : W8.cell? ⟨bo, off, none⟩ = some (.slice Ai 10 ci) := c0
  clear hp8 rb7 b7 hFS7 hlo7 rm hS8 ho8 rb8 hcc r0
  go_wp2_with fail
  ((with_reducible refine (pq_len p8).mono ?_); rintro e W9 hd)
  have d9 := hd.below
  obtain ⟨rfl, _⟩ := hd
  have p9 := p8.keep (OnlyS.of (S := fun _ => False) d9) (fun _ _ h => h)
  have b9 := b8.trans (d9.mono b8.size)
  clear p8 b8 d9 c0
  go_wp2_with fail
  ((with_reducible refine (pq_cut p9).mono ?_); rintro e Wa hd)
  have da := hd.below
  obtain ⟨rfl, _⟩ := hd
  have pa := p9.keep (OnlyS.of (S := fun _ => False) da) (fun _ _ h => h)
  have ba := b9.trans (da.mono b9.size)
  clear p9 b9 da
  go_wp2_with fail
  ((with_reducible refine (pq_bucket pa).mono ?_); rintro e Wb hd)
  have db := hd.below
  obtain ⟨rfl, _⟩ := hd
  have pb := pa.keep (OnlyS.of (S := fun _ => False) db) (fun _ _ h => h)
  have bb := ba.trans (db.mono ba.size)
  clear pa ba db
  go_wp2_with fail
  ((with_reducible refine (pq_bucket pb).mono ?_); rintro e Wc hd)
  have dc := hd.below
  obtain ⟨rfl, _⟩ := hd
  have pc := pb.keep (OnlyS.of (S := fun _ => False) dc) (fun _ _ h => h)
  have bc := bb.trans (dc.mono bb.size)
  clear pb bb dc
  go_wp2_with fail
  ((with_reducible refine (pk_level gb 0 100 62000000 _ pc.bkt ok6).mono ?_); rintro e Wd hd)
  have dd := hd.below
  obtain ⟨rfl, _⟩ := hd
  have bd := bc.trans (dd.mono bc.size)
  clear pc bc dd
  go_wp2_with fail
  go_ret
  exact ⟨rfl, bd⟩
end Go.Proofs.Ytdjopbhjfnakdaa
