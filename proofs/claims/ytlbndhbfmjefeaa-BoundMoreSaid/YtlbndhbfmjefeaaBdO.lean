/- BoundMore's walk. -/
import Derived.Test.YtlbndhbfmjefeaaBdH
namespace Go.Proofs.Ytlbndhbfmjefeaa
open Go.RowKit
set_option linter.unusedVariables false
set_option linter.unusedSimpArgs false
set_option maxRecDepth 20000

theorem ownTp_one (w : World) (base o r : Nat) (v : Int) (hb : base ≤ w.heap.size) : OwnTp (w.alloc (.cells #[.int .u32 (o : Int), .int .u64 (r : Int), .int .i64 v] 30)) base (.slice (some ⟨w.heap.size, 0, none⟩) 1 1) [⟨o, r, v⟩] :=
  ⟨rfl, .inr ⟨w.heap.size, 1, _, rfl, hb, Blk.new _ _ _, Nat.le_refl _, by simp [maxLen], rfl, rfl⟩⟩
theorem more_let (n X : Nat) (x : Tup) (M : List Tup) : letA n X (heldR (x :: M)) ≤ letA n X (heldR M) := by
  show min _ (letA n X (heldR M)) ≤ _
  exact Nat.min_le_right _ _
theorem more_over {M : List Tup} {o r : Nat} {v : Int} {R : List Ln} (hm : (⟨o, r, v⟩ : Tup) ∈ M) (hr : r ≤ 16008000) (h : BSet (heldR M) R) : BSet (heldR (⟨o + 100, r + 5, v⟩ :: M)) R := by
  refine bset_over (x := holdT ⟨o, r, v⟩) (y := holdT ⟨o + 100, r + 5, v⟩) (List.mem_map.2 ⟨_, hm, rfl⟩) ⟨rfl, .inl ?_⟩ h
  show min r 1099511627776 < min (r + 5) 1099511627776
  omega
set_option maxHeartbeats 4000000 in
theorem boundMore_walk (A : Option Addr) (n c : Nat) (nn : Int) (p : Nat) (w : World) (hr : RI w w.heap.size A n c) (hn : n ≤ 281474976710656) (hnn : I64 nn) (hp : p < 18446744073709551616) :
    Calls Try.prog 6 #[.slice A n c, .int .i64 nn, .int .u64 (p : Int)] w (Yes w) := by
  obtain ⟨k7, hk7, hk7l⟩ := bits_and_le nn 7 (by omega)
  replace hk7 : bits .and .i64 nn 7 = (k7 : Int) := hk7
  obtain ⟨p1, hp1, hp1l⟩ := and64_le (p : Int) 65535 (by omega)
  replace hp1 : bits .and .u64 (p : Int) 65535 = (p1 : Int) := hp1
  obtain ⟨k1, hk1⟩ : ∃ k1, k1 = 1 + k7 := ⟨_, rfl⟩
  have y1 : IntKind.i64.wrap (1 + (k7 : Int)) = (k1 : Int) := by rw [IntKind.wrap_i64]; omega
  have hk1l : k1 ≤ 8 := by omega
  have hk1p : 0 < k1 := by omega
  have HR := Lib.hid hr
  have HN := Lib.hid hn
  clear hr hnn hn hp hk7l hk1
  go_enter Try.func6, Try.ntmps6
  go_wp2_with fail
  ((with_reducible refine (row_any HR.out HN.out k1 (by omega)).mono ?_); rintro e w1 ⟨vL, M, rfl, owL, hML, hsL, b1⟩)
  obtain ⟨AL, cL, hv, rL, _⟩ := owL.rt (fun x hx => (hsL x hx).in_)
  rw [hML] at hv rL
  subst hv
  have hT := tape_at (HR.out.on b1) HN.out
  have HTT := Lib.hid (tape_tuple2 w1.heap.size _ hT)
  have HBA := Lib.hid (belowA w1 (.cells #[.slice A n c, .int .i64 0] 41))
  have HL := Lib.hid (fun W (hb : Below w1.heap.size w1 W) => rL.on hb)
  have HB1 := Lib.hid b1
  have HM := Lib.hid (⟨hML, hsL⟩ : _ ∧ _)
  clear rL hsL hML owL b1 hk7 y1 hT
  go_wp2_with fail
  ((with_reducible refine HTT.out.mono ?_); rintro e w2 ⟨⟨xo, xr, xv⟩, rfl, hxi, _, hxs, hm2⟩)
  have hb2 : Below w1.heap.size w1 w2 := HBA.out.trans hm2.below
  rw [show (⟨xo, xr, xv⟩ : Tup).cells.toArray = #[.int .u32 (xo : Int), .int .u64 (xr : Int), .int .i64 xv] from rfl]
  obtain ⟨b, off, hA, hbb, c0, c1, c2⟩ := (HL.out w2 hb2).at (q := 0) (by rw [HM.out.1]; exact hk1p)
  subst hA
  have hm0 : M[0]'(by rw [HM.out.1]; exact hk1p) ∈ M := List.getElem_mem _
  generalize M[0]'(by rw [HM.out.1]; exact hk1p) = y at c0 c1 c2 hm0
  obtain ⟨yo, yr, yv⟩ := y
  replace c0 : w2.cell? ⟨b, off, none⟩ = some (.int .u32 (yo : Int)) := c0
  replace c1 : w2.cell? ⟨b, off + 1, none⟩ = some (.int .u64 (yr : Int)) := c1
  replace c2 : w2.cell? ⟨b, off + 2, none⟩ = some (.int .i64 yv) := c2
  obtain ⟨hyo, hyr, hy0, hyv⟩ := HM.out.2 _ hm0
  replace hyo : yo ≤ 9 := hyo
  replace hyr : yr ≤ 16008000 := hyr
  have HY := Lib.hid (⟨hm0, hyr, hy0, hyv⟩ : _ ∧ _ ∧ _ ∧ _)
  have HX := Lib.hid (⟨hxi, hb2⟩ : Tup.In ⟨xo, xr, xv⟩ ∧ Below w1.heap.size w1 w2)
  have z1 : IntKind.u64.wrap ((yr : Int) + 5) = ((yr + 5 : Nat) : Int) := by rw [IntKind.wrap_u64]; omega
  have z2 : IntKind.u32.wrap ((yo : Int) + 100) = ((yo + 100 : Nat) : Int) := by rw [IntKind.wrap_u32]; omega
  obtain ⟨sr, hsr⟩ : ∃ s, s = yr + 5 := ⟨_, rfl⟩
  obtain ⟨so, hso⟩ : ∃ s, s = yo + 100 := ⟨_, rfl⟩
  rw [← hsr] at z1
  rw [← hso] at z2
  have HSR := Lib.hid (⟨hsr, hso⟩ : _ ∧ _)
  clear HBA HTT hm2 hxi hxs hb2 hm0 hsr hso hy0 hyv
  go_upto_region 6 with (fail)
  have bxa := belowA w2 (.cells #[.int .u32 (xo : Int), .int .u64 (xr : Int), .int .i64 xv] 30)
  have bxb := belowA (w2.alloc (.cells #[.int .u32 (xo : Int), .int .u64 (xr : Int), .int .i64 xv] 30)) (.cells #[.int .u32 (so : Int), .int .u64 (sr : Int), .int .i64 yv] 30)
  have Bx : Blk ((w2.alloc (.cells #[.int .u32 (xo : Int), .int .u64 (xr : Int), .int .i64 xv] 30)).alloc (.cells #[.int .u32 (so : Int), .int .u64 (sr : Int), .int .i64 yv] 30)) w2.heap.size 30 #[.int .u32 (xo : Int), .int .u64 (xr : Int), .int .i64 xv] := Blk.alloc (Blk.new _ _ _) _
  have By : Blk ((w2.alloc (.cells #[.int .u32 (xo : Int), .int .u64 (xr : Int), .int .i64 xv] 30)).alloc (.cells #[.int .u32 (so : Int), .int .u64 (sr : Int), .int .i64 yv] 30)) (w2.heap.size + 1) 30 #[.int .u32 (so : Int), .int .u64 (sr : Int), .int .i64 yv] := by
    have := Blk.new (w2.alloc (.cells #[.int .u32 (xo : Int), .int .u64 (xr : Int), .int .i64 xv] 30)) 30 #[.int .u32 (so : Int), .int .u64 (sr : Int), .int .i64 yv]
    rwa [show (w2.alloc (.cells #[.int .u32 (xo : Int), .int .u64 (xr : Int), .int .i64 xv] 30)).heap.size = w2.heap.size + 1 by simp] at this
  have b3 : Below w1.heap.size w1 ((w2.alloc (.cells #[.int .u32 (xo : Int), .int .u64 (xr : Int), .int .i64 xv] 30)).alloc (.cells #[.int .u32 (so : Int), .int .u64 (sr : Int), .int .i64 yv] 30)) := HX.out.2.trans ((bxa.trans (bxb.mono bxa.size)).mono HX.out.2.size)
  clear c0 c1 c2 bxa bxb hbb
  generalize ((w2.alloc (.cells #[.int .u32 (xo : Int), .int .u64 (xr : Int), .int .i64 xv] 30)).alloc (.cells #[.int .u32 (so : Int), .int .u64 (sr : Int), .int .i64 yv] 30)) = w3 at Bx By b3 ⊢
  generalize w2.heap.size + 1 = gy at By ⊢
  generalize w2.heap.size = gx at Bx ⊢
  have x0 : w3.cell? ⟨gx, 0, none⟩ = some (.int .u32 (xo : Int)) := Bx.cell 0
  have x1 : w3.cell? ⟨gx, 1, none⟩ = some (.int .u64 (xr : Int)) := Bx.cell 1
  have x2 : w3.cell? ⟨gx, 2, none⟩ = some (.int .i64 xv) := Bx.cell 2
  have o3 := ownTp_one w3 w3.heap.size xo xr xv (Nat.le_refl _)
  have b3a := belowA w3 (.cells #[.int .u32 (xo : Int), .int .u64 (xr : Int), .int .i64 xv] 30)
  have r3 := HL.out _ (b3.trans (b3a.mono b3.size))
  have HLn := Lib.hid (show [(⟨xo, xr, xv⟩ : Tup)].length + k1 ≤ 4398046511104 by simp; omega)
  have s3 := b3a.size
  have HB3 := Lib.hid (⟨b3, b3a, By⟩ : _ ∧ _ ∧ Blk w3 gy _ _)
  have HIA : Hid (∀ x ∈ [(⟨xo, xr, xv⟩ : Tup)] ++ M, x.In) := Lib.hid (fun x hx => by
    rcases List.mem_append.1 hx with h | h
    · rw [List.mem_singleton.1 h]; exact HX.out.1
    · exact (HM.out.2 x h).in_)
  clear b3 b3a Bx By
  go_wp2_with (at_builtin; go_loud ((with_reducible refine wpList_appendTp rfl (.tmp 34) (.tmp 35) rfl rfl w3.heap.size (.slice (some ⟨w3.heap.size, 0, none⟩) 1 1) [⟨xo, xr, xv⟩] (by with_unfolding_all rfl) o3 _ (some ⟨b, off, none⟩) k1 cL M (by with_unfolding_all rfl) r3 HLn.out s3 ?_); intro v9 w9 ha9; obtain ⟨A9, c9, e9, r9, _⟩ := ha9.1.rt HIA.out; obtain ⟨m9, hm9⟩ : ∃ m, m = ([(⟨xo, xr, xv⟩ : Tup)] ++ M).length := ⟨_, rfl⟩; rw [← hm9] at e9 r9; subst e9; have H9 := Lib.hid (⟨ha9, r9, hm9⟩ : _ ∧ _ ∧ _); clear ha9 r9 hm9))
  have b9 : Below w3.heap.size w3 w9 := below_grown HB3.out.2.1 s3 H9.out.1.2 (fun kk hkk => (World.ownsRow.lt o3 kk hkk).1)
  have HB9 := Lib.hid (⟨HB3.out.1.trans (b9.mono HB3.out.1.size), (b9.block gy HB3.out.2.2.lt).trans HB3.out.2.2⟩ : Below w1.heap.size w1 w9 ∧ Blk w9 gy _ _)
  have hm9 : m9 ≤ 100000 := by have h5 := H9.out.2.2; have h6 := HM.out.1; rw [List.length_append, h6] at h5; simp at h5; omega
  clear o3 r3 s3 b9 x0 x1 x2
  have hh := bd_holds H9.out.2.1 hm9 (p := p1) (by omega)
  obtain ⟨u1, hu1⟩ : ∃ u, u = letA 18446744073709551615 (8 * min p1 4294967296) (heldR ([⟨xo, xr, xv⟩] ++ M)) := ⟨_, rfl⟩
  rw [← hu1] at hh
  ((with_reducible refine hh.mono ?_); rintro e w10 ⟨rfl, d10⟩)
  have HB10 := Lib.hid (⟨HB9.out.1.trans (d10.mono HB9.out.1.size), (d10.block gy HB9.out.2.lt).trans HB9.out.2⟩ : Below w1.heap.size w1 w10 ∧ Blk w10 gy _ _)
  clear d10 HB9 hh
  have hl := bd_holds (HL.out w10 HB10.out.1) (by omega) (p := p1) (by omega)
  obtain ⟨u2, hu2⟩ : ∃ u, u = letA 18446744073709551615 (8 * min p1 4294967296) (heldR M) := ⟨_, rfl⟩
  rw [← hu2] at hl
  have hle : u1 ≤ u2 := by rw [hu1, hu2]; exact more_let _ _ _ _
  clear hu1 hu2
  go_wp2_with fail
  ((with_reducible refine hl.mono ?_); rintro e w11 ⟨rfl, d11⟩)
  have b11 := HB10.out.1.trans (d11.mono HB10.out.1.size)
  have B11 := (d11.block gy HB10.out.2.lt).trans HB10.out.2
  have t1 : decide ((u1 : Int) ≤ (u2 : Int)) = true := by simp; omega
  have t2 : decide (u1 ≤ u2) = true := by simp; omega
  have y0 : w11.cell? ⟨gy, 0, none⟩ = some (.int .u32 (so : Int)) := Blk.cell B11 0
  have y1 : w11.cell? ⟨gy, 1, none⟩ = some (.int .u64 (sr : Int)) := Blk.cell B11 1
  have y2 : w11.cell? ⟨gy, 2, none⟩ = some (.int .i64 yv) := Blk.cell B11 2
  have o3 := ownTp_one w11 w11.heap.size so sr yv (Nat.le_refl _)
  have b3a := belowA w11 (.cells #[.int .u32 (so : Int), .int .u64 (sr : Int), .int .i64 yv] 30)
  have r3 := HL.out _ (b11.trans (b3a.mono b11.size))
  have s3 := b3a.size
  have HB11 := Lib.hid (⟨b11, b3a⟩ : _ ∧ _)
  have HIB : Hid (∀ x ∈ [(⟨so, sr, yv⟩ : Tup)] ++ M, x.In) := Lib.hid (fun x hx => by
    rcases List.mem_append.1 hx with h | h
    · rw [List.mem_singleton.1 h]
      exact ⟨by show so < _; have := HSR.out.2; omega, by show sr < _; have := HSR.out.1; omega, by show I64 yv; have h1 := HY.out.2.2.1; have h2 := HY.out.2.2.2; unfold I64; omega⟩
    · exact (HM.out.2 x h).in_)
  have HLm := Lib.hid (show [(⟨so, sr, yv⟩ : Tup)].length + k1 ≤ 4398046511104 by simp; omega)
  clear b11 b3a B11 d11 HB10 hl hle
  go_wp2_with (at_builtin; go_loud ((with_reducible refine wpList_appendTp_w (by with_unfolding_all rfl) (.tmp 45) (.tmp 46) rfl rfl w11.heap.size (.slice (some ⟨w11.heap.size, 0, none⟩) 1 1) [⟨so, sr, yv⟩] (by with_unfolding_all rfl) o3 _ (some ⟨b, off, none⟩) k1 cL M (by with_unfolding_all rfl) r3 HLm.out s3 ?_); intro v12 w12 ha12; obtain ⟨A12, c12, e12, r12, _⟩ := ha12.1.rt HIB.out; obtain ⟨m12, hm12⟩ : ∃ m, m = ([(⟨so, sr, yv⟩ : Tup)] ++ M).length := ⟨_, rfl⟩; rw [← hm12] at e12 r12; subst e12; have H12 := Lib.hid (⟨ha12, r12, hm12⟩ : _ ∧ _ ∧ _); clear ha12 r12 hm12))
  have b12 : Below w11.heap.size w11 w12 := below_grown HB11.out.2 s3 H12.out.1.2 (fun kk hkk => (World.ownsRow.lt o3 kk hkk).1)
  have HB12 := Lib.hid (HB11.out.1.trans (b12.mono HB11.out.1.size))
  have hm12 : m12 ≤ 100000 := by have h5 := H12.out.2.2; have h6 := HM.out.1; rw [List.length_append, h6] at h5; simp at h5; omega
  clear o3 r3 s3 b12 y0 y1 y2 t1 t2
  ((with_reducible refine (bd_set H12.out.2.1 hm12).mono ?_); rintro e w13 ⟨v13, R13, rfl, hR13, o13, d13⟩)
  have hi13 : ∀ a ∈ R13, a.In := fun a ha => heldR_in HIB.out a (bset_sub hR13 a ha)
  obtain ⟨A13, c13, e13, r13, _⟩ := o13.rt (unR_in hi13)
  obtain ⟨m13, hm13⟩ : ∃ m, m = R13.length := ⟨_, rfl⟩
  rw [List.length_map, ← hm13] at e13 r13
  subst e13
  have HB13 := Lib.hid (HB12.out.trans (d13.mono HB12.out.size))
  have H13 := Lib.hid (⟨hR13, r13, hm13⟩ : _ ∧ _ ∧ _)
  clear hR13 o13 d13 hi13 r13 hm13
  go_wp2_with fail
  ((with_reducible refine (bd_set (HL.out _ HB13.out) (by omega)).mono ?_); rintro e w14 ⟨v14, R14, rfl, hR14, o14, d14⟩)
  have hsame : R14 = R13 := by
    refine bset_one (l := heldR ([⟨so, sr, yv⟩] ++ M)) ?_ H13.out.1
    have := more_over HY.out.1 HY.out.2.1 hR14
    rw [← HSR.out.1, ← HSR.out.2] at this
    exact this
  subst hsame
  have hi14 : ∀ a ∈ R14, a.In := fun a ha => heldR_in HIB.out a (bset_sub H13.out.1 a ha)
  obtain ⟨A14, c14, e14, r14, _⟩ := o14.rt (unR_in hi14)
  rw [List.length_map, ← H13.out.2.2] at e14 r14
  subst e14
  have HB14 := Lib.hid (HB13.out.trans (d14.mono HB13.out.size))
  have hm14 : m13 ≤ 1000000 := by have h1 := bset_len hR14; have h2 : (heldR M).length = k1 := by rw [← HM.out.1]; exact List.length_map ..
                                  have h3 := H13.out.2.2; omega
  have H14 := Lib.hid (⟨r14, H13.out.2.1.on d14⟩ : _ ∧ _)
  clear hR14 o14 d14 hi14 r14
  go_wp2_with fail
  ((with_reducible refine (tuples_yes H14.out.2 H14.out.1 hm14).mono ?_); rintro e w15 ⟨rfl, d15⟩)
  have HB15 := Lib.hid (HB14.out.trans (d15.mono HB14.out.size))
  clear d15
  go_wp2_with fail
  ((with_reducible refine (known13_any _).mono ?_); rintro e w16 ⟨rfl, d16⟩)
  have HB16 := Lib.hid (HB15.out.trans (d16.mono HB15.out.size))
  clear d16
  go_wp2_with fail
  go_ret
  exact ⟨rfl, HB1.out.trans (HB16.out.mono HB1.out.size)⟩
end Go.Proofs.Ytlbndhbfmjefeaa
