/- CtlApart's walk. -/
import Derived.Test.YtgjncaobcgjefaaNk
namespace Go.Proofs.Ytgjncaobcgjefaa.RP
open Go.RowKit
set_option linter.unusedVariables false
set_option linter.unusedSimpArgs false
set_option maxRecDepth 20000

theorem same8_any (a b : Ctl) (A A' : Option Addr) (c c' : Nat) (w : World) (h1 : IsC w w.heap.size a A c) (h2 : IsC w w.heap.size b A' c') (hl : a.layers.length ≤ 1000000) (D : Bool) (hD : a = b ↔ D = true) : Calls Try.prog 10 #[a.val A c, b.val A' c'] w (Ans (.bool D) w) := by
  by_cases e : a = b
  · rw [hD.1 e]
    subst e
    exact ref8_same_yes a A A' c c' w h1 h2 hl
  · rw [show D = false by rw [Bool.eq_false_iff]; exact fun h => e (hD.2 h)]
    exact ref8_same_no a b A A' c c' w h1 h2 hl e
theorem or0 (n : Nat) (h : n < 256) : bits BinOp.or .i64 0 (n : Int) = (n : Int) := by
  have := (List.all_eq_true.1 (show (List.range 256).all (fun n => bits BinOp.or .i64 0 (n : Int) == (n : Int)) = true by kernel_rfl)) n (List.mem_range.2 h)
  simpa using this
/-- The first bytes of a right message. -/
theorem bytes_first {x : Ctl} (ok : x.Ok) : ((x.bytes.getD 0 0).toNat : Int) = x.kind ∧ (x.bytes.getD 1 0).toNat = 0 ∧ (x.bytes.getD 2 0).toNat + 3 = x.bytes.length := by
  have h0 := bytes_head ok
  have hb := body_len ok
  have hl := bytes_len x
  refine ⟨h0.1, ?_, ?_⟩
  · show (UInt8.ofNat (x.body.length / 256)).toNat = 0
    rw [UInt8.toNat_ofNat']
    omega
  · show (UInt8.ofNat x.body.length).toNat + 3 = _
    rw [UInt8.toNat_ofNat', hl]
    omega
set_option maxHeartbeats 8000000 in
theorem ctlApart_walk (A : Option Addr) (n c : Nat) (A' : Option Addr) (n' c' : Nat) (w : World) (h : RI w w.heap.size A n c) (hn : n ≤ 281474976710656) (h' : RI w w.heap.size A' n' c') (hn' : n' ≤ 281474976710656) :
    Calls Try.prog 4 #[.slice A n c, .slice A' n' c'] w (Yes w) := by
  have hT := tape_at8 h hn
  have b0 : Below w.heap.size w (w.alloc (.cells #[.slice A n c, .int .i64 0] 28)) := below_alloc w _
  clear h
  go_enter Try.func4, Try.ntmps4
  go_wp2_with fail
  refine (tape_ctl _ _ hT).mono ?_
  rintro e w1 ⟨x, Ax, cx, rfl, okx, hX, hx3, hm, hxa⟩
  have b1 := b0.trans hm.below
  have h2' := RI.on8 h' b1
  have hT2 := tape_at8 h2' hn'
  have bt2 : Below w1.heap.size w1 (w1.alloc (.cells #[.slice A' n' c', .int .i64 0] 28)) := below_alloc w1 _
  clear hT b0 hm h' h2' hxa
  obtain ⟨vx, hvx⟩ : ∃ v, v = x.val Ax cx := ⟨_, rfl⟩
  rw [← hvx]
  have HVX := Lib.hid hvx
  clear hvx
  go_wp2_with fail
  refine (tape_ctl _ _ hT2).mono ?_
  rintro e w2 ⟨y, Ay, cy, rfl, oky, hY, hy3, hm, hya⟩
  have bz := bt2.trans hm.below
  have b2 := b1.trans (bz.mono b1.size)
  have hX2 := hX.on bz
  clear hT2 bt2 hm bz b1 hX hya
  obtain ⟨vy, hvy⟩ : ∃ v, v = y.val Ay cy := ⟨_, rfl⟩
  rw [← hvy]
  have hsx := ctl_small okx
  have hsy := ctl_small oky
  have hfx := bytes_first okx
  obtain ⟨D, hD⟩ : ∃ D : Bool, x = y ↔ D = true := by
    by_cases e : x = y
    · exact ⟨true, by simp [e]⟩
    · exact ⟨false, by simp [e]⟩
  have hDb : (x.bytes == y.bytes) = D := by
    rw [Bool.eq_iff_iff, beq_iff_eq, ← hD]
    exact ⟨fun e => bytes_inj okx oky hX2.layers.2.1 hY.layers.2.1 e, fun e => by rw [e]⟩
  have HBX := Lib.hid fun (W : World) (hb : Below w2.heap.size w2 W) => bytes_yes x okx Ax cx W (hX2.layers.on hb)
  have HBY := Lib.hid fun (W : World) (hb : Below w2.heap.size w2 W) => bytes_yes y oky Ay cy W (hY.layers.on hb)
  have HS := Lib.hid fun (W : World) (hb : Below w2.heap.size w2 W) => same8_any x y Ax Ay cx cy W (hX2.on hb) (hY.on hb) (by omega) D hD
  have hvx := HVX.out
  rw [← hvx, ← hvy] at HS
  rw [← hvx] at HBX
  rw [← hvy] at HBY
  have hkx := okx.kind
  generalize x.bytes = BX at HBX hsx hfx hDb
  generalize y.bytes = BY at HBY hsy hDb
  clear hX2 hY hx3 hy3 okx oky hD HVX
  obtain ⟨k, p, l, e, ht, s, y', d⟩ := x
  obtain ⟨k2, p2, l2, e2, ht2, s2, y2, d2⟩ := y
  simp only [Ctl.val] at hvx hvy hfx hkx
  obtain ⟨k, rfl⟩ : ∃ q : Nat, k = (q : Int) := ⟨k.toNat, by omega⟩
  generalize l.length = m at hvx
  generalize l2.length = m2 at hvy
  subst hvx hvy
  go_upto_region 2 with (fail)
  have bv1 := below_alloc w2 (.cells #[.int .i64 (k : Int), .int .i64 p, .slice Ax m cx, .int .i64 e, .int .i64 ht, .int .i64 s, .int .i64 y', .int .i64 d] 25)
  have hP := Blk.new w2 25 #[.int .i64 (k : Int), .int .i64 p, .slice Ax m cx, .int .i64 e, .int .i64 ht, .int .i64 s, .int .i64 y', .int .i64 d]
  have hs1 : (w2.alloc (.cells #[.int .i64 (k : Int), .int .i64 p, .slice Ax m cx, .int .i64 e, .int .i64 ht, .int .i64 s, .int .i64 y', .int .i64 d] 25)).heap.size = w2.heap.size + 1 := by simp
  generalize w2.alloc (.cells #[.int .i64 (k : Int), .int .i64 p, .slice Ax m cx, .int .i64 e, .int .i64 ht, .int .i64 s, .int .i64 y', .int .i64 d] 25) = V1 at bv1 hP hs1 ⊢
  have bv2 := below_alloc V1 (.cells #[.int .i64 k2, .int .i64 p2, .slice Ay m2 cy, .int .i64 e2, .int .i64 ht2, .int .i64 s2, .int .i64 y2, .int .i64 d2] 25)
  have hQ := Blk.new V1 25 #[.int .i64 k2, .int .i64 p2, .slice Ay m2 cy, .int .i64 e2, .int .i64 ht2, .int .i64 s2, .int .i64 y2, .int .i64 d2]
  have hP := hP.below bv2 hP.lt
  have bV := bv1.trans (bv2.mono bv1.size)
  rw [hs1] at hQ
  clear bv1 bv2 hs1
  generalize V1.alloc (.cells #[.int .i64 k2, .int .i64 p2, .slice Ay m2 cy, .int .i64 e2, .int .i64 ht2, .int .i64 s2, .int .i64 y2, .int .i64 d2] 25) = V at bV hP hQ ⊢
  have HW2 := Lib.hid (show w2.heap.size ≤ w2.heap.size from Nat.le_refl _)
  have hb1 := HBX.out V bV
  obtain ⟨P, hPe⟩ : ∃ P, P = w2.heap.size := ⟨_, rfl⟩
  rw [← hPe] at hP hQ ⊢
  have HPE := Lib.hid hPe
  clear hPe
  obtain ⟨x0, x1, x2, x3, x4, x5, x6, x7⟩ := blk8c hP
  go_wp2_with fail
  refine hb1.mono ?_
  rintro e' W3 ⟨v3, rfl, o3, b3⟩
  obtain ⟨A3, c3, rfl, r3, f3⟩ := o3.r8n
  have bV3 := bV.trans (b3.mono bV.size)
  have hP := hP.below b3 hP.lt
  have hQ := hQ.below b3 hQ.lt
  have hb2 := HBY.out W3 bV3
  obtain ⟨nX, hnX⟩ : ∃ q, q = BX.length := ⟨_, rfl⟩
  rw [← hnX] at hsx hfx r3 ⊢
  have HNX := Lib.hid hnX
  obtain ⟨z0, z1, z2, z3, z4, z5, z6, z7⟩ := blk8c hQ
  clear hnX hb1 b3 o3 f3 bV HBX HBY x0 x1 x2 x3 x4 x5 x6 x7
  go_wp2_with fail
  refine hb2.mono ?_
  rintro e' W4 ⟨v4, rfl, o4, b4⟩
  obtain ⟨A4, c4, rfl, r4, f4⟩ := o4.r8n
  have bV4 := bV3.trans (b4.mono bV3.size)
  have hP := hP.below b4 hP.lt
  have hQ := hQ.below b4 hQ.lt
  have r3 := r3.on b4
  obtain ⟨nY, hnY⟩ : ∃ q, q = BY.length := ⟨_, rfl⟩
  rw [← hnY] at hsy r4 ⊢
  have HNY := Lib.hid hnY
  clear hnY hb2 b4 o4 f4 bV3 z0 z1 z2 z3 z4 z5 z6 z7
  go_upto_region 4 with (fail)
  obtain ⟨bb, off, rfl, hbb, hcell⟩ := r3.2.2 (by omega)
  have hc0 := hcell 0 (by omega)
  have hc1 := hcell 1 (by omega)
  have hc2 := hcell 2 (by omega)
  have hk0 : ((BX.getD 0 0).toNat : Int) = (k : Int) := hfx.1
  rw [hk0, Nat.add_zero] at hc0
  rw [hfx.2.1] at hc1
  obtain ⟨L, hL⟩ : ∃ L, L = (BX.getD 2 0).toNat := ⟨_, rfl⟩
  have hL3 : L + 3 = nX := by rw [hL]; exact hfx.2.2
  rw [← hL] at hc2
  have hPl := hP.lt
  have hQl := hQ.lt
  have b4 := b2.trans (bV4.mono b2.size)
  have yk : IntKind.i64.wrap (k : Int) = (k : Int) := by rw [IntKind.wrap_i64]; omega
  have yL : IntKind.i64.wrap (L : Int) = (L : Int) := by rw [IntKind.wrap_i64]; omega
  have yn : IntKind.i64.wrap ((nX : Int) - 3) = (L : Int) := by rw [IntKind.wrap_i64]; omega
  have yw : IntKind.i64.wrap 0 = 0 := by rw [IntKind.wrap_i64]; rfl
  have yor := or0 L (by omega)
  have hn1 : 1 < nX := by omega
  have hm1 : ¬ (nX : Int) ≤ 1 := by omega
  have hm2 : ¬ (nX : Int) ≤ 2 := by omega
  have hn2 : 2 < nX := by omega
  have hn0 : 0 < nX := by omega
  clear hcell hfx hL hk0
  refine wp_region_tbl [.val (.int .i64 0), .val (.bool true), .val (.bool true), .val (.int .i64 0), .val (.bool true), .val (.bool true), .val (.bool true), .val (.slice (some ⟨bb, off, none⟩) nX c3), .val (.string ⟨BX.toArray⟩), .val (.slice A4 nY c4), .val (.string ⟨BY.toArray⟩), .val (.bool D), .val (.agg #[.int .i64 (k : Int), .int .i64 p, .slice Ax m cx, .int .i64 e, .int .i64 ht, .int .i64 s, .int .i64 y', .int .i64 d]), .val (.agg #[.int .i64 k2, .int .i64 p2, .slice Ay m2 cy, .int .i64 e2, .int .i64 ht2, .int .i64 s2, .int .i64 y2, .int .i64 d2]), .val (.bool D), .val (.bool true), .val (.bool true), .val (.bool true), .val (.slice (some ⟨bb, off, none⟩) nX c3), .val (.int .i64 (nX : Int)), .val (.bool true), .val (.bool true), .val (.bool true), .val (.slice (some ⟨bb, off, none⟩) nX c3), .val (.pointer (some ⟨bb, off + 1, none⟩)), .val (.int .u8 0), .val (.int .i64 0), .val (.int .i64 0), .val (.slice (some ⟨bb, off, none⟩) nX c3), .val (.pointer (some ⟨bb, off + 2, none⟩)), .val (.int .u8 (L : Int)), .val (.int .i64 (L : Int)), .val (.int .i64 (L : Int)), .val (.slice (some ⟨bb, off, none⟩) nX c3), .val (.int .i64 (nX : Int)), .val (.int .i64 (L : Int)), .val (.bool true), .val (.bool true), .val (.bool true), .val (.slice (some ⟨bb, off, none⟩) nX c3), .val (.pointer (some ⟨bb, off, none⟩)), .val (.int .u8 (k : Int)), .val (.int .i64 (k : Int)), .val (.pointer (some ⟨P, 0, none⟩)), .val (.int .i64 (k : Int)), .val (.bool true), .val (.bool true), .val (.bool true), .val (.bool true), .val (.bool true), .val (.bool true)] (by kernel_rfl) (by kernel_rfl) (by kernel_rfl) (AllObl.all ⟨?_, ?_, ?_, ?_, ?_, ?_, ?_, ?_, ?_, ?_, ?_, ?_, ?_, ?_, ?_, ?_, ?_, ?_, ?_, ?_, ?_, ?_, ?_, ?_, ?_, ?_, ?_, ?_, ?_, ?_, ?_, ?_, ?_, ?_, ?_, ?_, ?_, ?_, ?_, ?_, ?_, ?_, ?_, ?_, ?_, ?_, ?_, ?_, ?_, ?_, ?_, trivial⟩) ?_
  · exact Obl.move trivial _ (Or.inl rfl) (by kernel_rfl)
  · exact Obl.bin trivial .eql _ (.tmp 29) (.const (.int .i64 0)) _ rfl (.int .i64 0) (.int .i64 0) (.bool true) (by kernel_rfl) (by kernel_rfl) (fun w => by simp [eqGuard, go_sem]) (by kernel_rfl)
  · exact Obl.move trivial _ (Or.inl rfl) (by kernel_rfl)
  · exact Obl.move ⟨by kernel_rfl, by kernel_rfl, by kernel_rfl⟩ _ (Or.inl rfl) (by kernel_rfl)
  · exact Obl.bin ⟨by kernel_rfl, by kernel_rfl, by kernel_rfl⟩ .eql _ (.tmp 32) (.const (.int .i64 0)) _ rfl (.int .i64 0) (.int .i64 0) (.bool true) (by kernel_rfl) (by kernel_rfl) (fun w => by simp [eqGuard, go_sem]) (by kernel_rfl)
  · exact Obl.pick trivial _ _ _ rfl true (by kernel_rfl) (by kernel_rfl)
  · exact Obl.move trivial _ (Or.inl rfl) (by kernel_rfl)
  · exact Obl.move ⟨by kernel_rfl, by kernel_rfl, by kernel_rfl⟩ _ (Or.inl rfl) (by kernel_rfl)
  · exact Obl.pure ⟨by kernel_rfl, by kernel_rfl, by kernel_rfl⟩ (.string ⟨BX.toArray⟩) (by kernel_rfl) (fun ev w hb hx => by
      have e36 : ev (.tmp 36) = .slice (some ⟨bb, off, none⟩) nX c3 := holds_val (hx (.tmp 36)) (by kernel_rfl)
      have hst := (r3.on ((drew_below _).trans hb)).string 30 5 9 (P := Try.prog) Try.underlying30 Try.underlying5 Try.underlying9; simp [execOp, e36, go_sem, hst])
  · exact Obl.move ⟨by kernel_rfl, by kernel_rfl, by kernel_rfl⟩ _ (Or.inl rfl) (by kernel_rfl)
  · exact Obl.pure ⟨by kernel_rfl, by kernel_rfl, by kernel_rfl⟩ (.string ⟨BY.toArray⟩) (by kernel_rfl) (fun ev w hb hx => by
      have e38 : ev (.tmp 38) = .slice A4 nY c4 := holds_val (hx (.tmp 38)) (by kernel_rfl)
      have hst := (r4.on ((drew_below _).trans hb)).string 30 5 9 (P := Try.prog) Try.underlying30 Try.underlying5 Try.underlying9; simp [execOp, e38, go_sem, hst])
  · exact Obl.bin ⟨by kernel_rfl, by kernel_rfl, by kernel_rfl⟩ .eql _ (.tmp 37) (.tmp 39) _ rfl (.string ⟨BX.toArray⟩) (.string ⟨BY.toArray⟩) (.bool D) (by kernel_rfl) (by kernel_rfl) (eql_strs _ _ _ hDb _ _) (by kernel_rfl)
  · exact Obl.pure ⟨by kernel_rfl, by kernel_rfl, by kernel_rfl⟩ (.agg #[.int .i64 (k : Int), .int .i64 p, .slice Ax m cx, .int .i64 e, .int .i64 ht, .int .i64 s, .int .i64 y', .int .i64 d]) (by kernel_rfl) (fun ev w hb hx => by
      have e5 : ev (.tmp 5) = .pointer (some ⟨P, 0, none⟩) := holds_val (hx (.tmp 5)) (by kernel_rfl)
      obtain ⟨m0, m1, m2, m3, m4, m5, m6, m7⟩ := blk8c (hP.below ((drew_below _).trans hb) hPl); simp [execOp, e5, go_sem, m0, m1, m2, m3, m4, m5, m6, m7])
  · exact Obl.pure ⟨by kernel_rfl, by kernel_rfl, by kernel_rfl⟩ (.agg #[.int .i64 k2, .int .i64 p2, .slice Ay m2 cy, .int .i64 e2, .int .i64 ht2, .int .i64 s2, .int .i64 y2, .int .i64 d2]) (by kernel_rfl) (fun ev w hb hx => by
      have e6 : ev (.tmp 6) = .pointer (some ⟨P + 1, 0, none⟩) := holds_val (hx (.tmp 6)) (by kernel_rfl)
      obtain ⟨m0, m1, m2, m3, m4, m5, m6, m7⟩ := blk8c (hQ.below ((drew_below _).trans hb) hQl); simp [execOp, e6, go_sem, m0, m1, m2, m3, m4, m5, m6, m7])
  · exact Obl.call ⟨by kernel_rfl, by kernel_rfl, by kernel_rfl⟩ 10 #[.tmp 41, .tmp 42] _ rfl Try.f10 Try.func10 (by kernel_rfl) (by kernel_rfl) (fun ev w hb hx => by
      have e41 : ev (.tmp 41) = .agg #[.int .i64 (k : Int), .int .i64 p, .slice Ax m cx, .int .i64 e, .int .i64 ht, .int .i64 s, .int .i64 y', .int .i64 d] := holds_val (hx (.tmp 41)) (by kernel_rfl)
      have e42 : ev (.tmp 42) = .agg #[.int .i64 k2, .int .i64 p2, .slice Ay m2 cy, .int .i64 e2, .int .i64 ht2, .int .i64 s2, .int .i64 y2, .int .i64 d2] := holds_val (hx (.tmp 42)) (by kernel_rfl)
      simp only [List.map_toArray, List.map_cons, List.map_nil, e41, e42]
      exact (HS.out w (bV4.trans (((drew_below _).trans hb).mono bV4.size))).mono fun _ _ hh => Val.holds (by kernel_rfl) hh)
  · exact Obl.bin ⟨by kernel_rfl, by kernel_rfl, by kernel_rfl⟩ .eql _ (.tmp 40) (.tmp 43) _ rfl (.bool D) (.bool D) (.bool true) (by kernel_rfl) (by kernel_rfl) (fun w => by simp [eqGuard, go_sem]) (by kernel_rfl)
  · exact Obl.pick trivial _ _ _ rfl true (by kernel_rfl) (by kernel_rfl)
  · exact Obl.move trivial _ (Or.inl rfl) (by kernel_rfl)
  · exact Obl.move ⟨by kernel_rfl, by kernel_rfl, by kernel_rfl⟩ _ (Or.inl rfl) (by kernel_rfl)
  · exact Obl.pure ⟨by kernel_rfl, by kernel_rfl, by kernel_rfl⟩ (.int .i64 (nX : Int)) (by kernel_rfl) (fun ev w hb hx => by
      have e47 : ev (.tmp 47) = .slice (some ⟨bb, off, none⟩) nX c3 := holds_val (hx (.tmp 47)) (by kernel_rfl)
      simp [execOp, e47, go_sem])
  · exact Obl.bin ⟨by kernel_rfl, by kernel_rfl, by kernel_rfl⟩ .geq _ (.tmp 48) (.const (.int .i64 3)) _ rfl (.int .i64 (nX : Int)) (.int .i64 3) (.bool true) (by kernel_rfl) (by kernel_rfl) (fun w => by simp [eqGuard, go_sem]; try omega) (by kernel_rfl)
  · exact Obl.pick trivial _ _ _ rfl true (by kernel_rfl) (by kernel_rfl)
  · exact Obl.move trivial _ (Or.inl rfl) (by kernel_rfl)
  · exact Obl.move ⟨by kernel_rfl, by kernel_rfl, by kernel_rfl⟩ _ (Or.inl rfl) (by kernel_rfl)
  · exact Obl.pure ⟨by kernel_rfl, by kernel_rfl, by kernel_rfl⟩ (.pointer (some ⟨bb, off + 1, none⟩)) (by kernel_rfl) (fun ev w hb hx => by
      have e52 : ev (.tmp 52) = .slice (some ⟨bb, off, none⟩) nX c3 := holds_val (hx (.tmp 52)) (by kernel_rfl)
      have k0 : ev (.const (.int .i64 1)) = (.int .i64 1) := holds_val (hx (.const (.int .i64 1))) (by kernel_rfl)
      simp [execOp, e52, k0, go_sem, hn1, hm1])
  · exact Obl.pure ⟨by kernel_rfl, by kernel_rfl, by kernel_rfl⟩ (.int .u8 0) (by kernel_rfl) (fun ev w hb hx => by
      have e53 : ev (.tmp 53) = .pointer (some ⟨bb, off + 1, none⟩) := holds_val (hx (.tmp 53)) (by kernel_rfl)
      have mm := (((drew_below _).trans hb).cell (p := ⟨bb, off + 1, none⟩) hbb).trans hc1; simp [execOp, e53, go_sem, mm])
  · exact Obl.pure ⟨by kernel_rfl, by kernel_rfl, by kernel_rfl⟩ (.int .i64 0) (by kernel_rfl) (fun ev w hb hx => by
      have e54 : ev (.tmp 54) = .int .u8 0 := holds_val (hx (.tmp 54)) (by kernel_rfl)
      simp [execOp, e54, go_sem, IntKind.wrap, IntKind.signed, IntKind.bits])
  · exact Obl.bin ⟨by kernel_rfl, by kernel_rfl, by kernel_rfl⟩ .shl _ (.tmp 55) (.const (.int .u64 8)) _ rfl (.int .i64 0) (.int .u64 8) (.int .i64 0) (by kernel_rfl) (by kernel_rfl) (fun w => by simp [eqGuard, go_sem, yw]) (by kernel_rfl)
  · exact Obl.move ⟨by kernel_rfl, by kernel_rfl, by kernel_rfl⟩ _ (Or.inl rfl) (by kernel_rfl)
  · exact Obl.pure ⟨by kernel_rfl, by kernel_rfl, by kernel_rfl⟩ (.pointer (some ⟨bb, off + 2, none⟩)) (by kernel_rfl) (fun ev w hb hx => by
      have e57 : ev (.tmp 57) = .slice (some ⟨bb, off, none⟩) nX c3 := holds_val (hx (.tmp 57)) (by kernel_rfl)
      have k0 : ev (.const (.int .i64 2)) = (.int .i64 2) := holds_val (hx (.const (.int .i64 2))) (by kernel_rfl)
      simp [execOp, e57, k0, go_sem, hn2, hm2])
  · exact Obl.pure ⟨by kernel_rfl, by kernel_rfl, by kernel_rfl⟩ (.int .u8 (L : Int)) (by kernel_rfl) (fun ev w hb hx => by
      have e58 : ev (.tmp 58) = .pointer (some ⟨bb, off + 2, none⟩) := holds_val (hx (.tmp 58)) (by kernel_rfl)
      have mm := (((drew_below _).trans hb).cell (p := ⟨bb, off + 2, none⟩) hbb).trans hc2; simp [execOp, e58, go_sem, mm])
  · exact Obl.pure ⟨by kernel_rfl, by kernel_rfl, by kernel_rfl⟩ (.int .i64 (L : Int)) (by kernel_rfl) (fun ev w hb hx => by
      have e59 : ev (.tmp 59) = .int .u8 (L : Int) := holds_val (hx (.tmp 59)) (by kernel_rfl)
      simp [execOp, e59, go_sem, yL])
  · exact Obl.bin ⟨by kernel_rfl, by kernel_rfl, by kernel_rfl⟩ .or _ (.tmp 56) (.tmp 60) _ rfl (.int .i64 0) (.int .i64 (L : Int)) (.int .i64 (L : Int)) (by kernel_rfl) (by kernel_rfl) (fun w => by simp [eqGuard, go_sem, yor]) (by kernel_rfl)
  · exact Obl.move ⟨by kernel_rfl, by kernel_rfl, by kernel_rfl⟩ _ (Or.inl rfl) (by kernel_rfl)
  · exact Obl.pure ⟨by kernel_rfl, by kernel_rfl, by kernel_rfl⟩ (.int .i64 (nX : Int)) (by kernel_rfl) (fun ev w hb hx => by
      have e62 : ev (.tmp 62) = .slice (some ⟨bb, off, none⟩) nX c3 := holds_val (hx (.tmp 62)) (by kernel_rfl)
      simp [execOp, e62, go_sem])
  · exact Obl.bin ⟨by kernel_rfl, by kernel_rfl, by kernel_rfl⟩ .sub _ (.tmp 63) (.const (.int .i64 3)) _ rfl (.int .i64 (nX : Int)) (.int .i64 3) (.int .i64 (L : Int)) (by kernel_rfl) (by kernel_rfl) (fun w => by simp [eqGuard, go_sem, yn]) (by kernel_rfl)
  · exact Obl.bin ⟨by kernel_rfl, by kernel_rfl, by kernel_rfl⟩ .eql _ (.tmp 61) (.tmp 64) _ rfl (.int .i64 (L : Int)) (.int .i64 (L : Int)) (.bool true) (by kernel_rfl) (by kernel_rfl) (fun w => by simp [eqGuard, go_sem]) (by kernel_rfl)
  · exact Obl.pick trivial _ _ _ rfl true (by kernel_rfl) (by kernel_rfl)
  · exact Obl.move trivial _ (Or.inl rfl) (by kernel_rfl)
  · exact Obl.move ⟨by kernel_rfl, by kernel_rfl, by kernel_rfl⟩ _ (Or.inl rfl) (by kernel_rfl)
  · exact Obl.pure ⟨by kernel_rfl, by kernel_rfl, by kernel_rfl⟩ (.pointer (some ⟨bb, off, none⟩)) (by kernel_rfl) (fun ev w hb hx => by
      have e68 : ev (.tmp 68) = .slice (some ⟨bb, off, none⟩) nX c3 := holds_val (hx (.tmp 68)) (by kernel_rfl)
      have k0 : ev (.const (.int .i64 0)) = (.int .i64 0) := holds_val (hx (.const (.int .i64 0))) (by kernel_rfl)
      simp [execOp, e68, k0, go_sem, hn0])
  · exact Obl.pure ⟨by kernel_rfl, by kernel_rfl, by kernel_rfl⟩ (.int .u8 (k : Int)) (by kernel_rfl) (fun ev w hb hx => by
      have e69 : ev (.tmp 69) = .pointer (some ⟨bb, off, none⟩) := holds_val (hx (.tmp 69)) (by kernel_rfl)
      have mm := (((drew_below _).trans hb).cell (p := ⟨bb, off, none⟩) hbb).trans hc0; simp [execOp, e69, go_sem, mm])
  · exact Obl.pure ⟨by kernel_rfl, by kernel_rfl, by kernel_rfl⟩ (.int .i64 (k : Int)) (by kernel_rfl) (fun ev w hb hx => by
      have e70 : ev (.tmp 70) = .int .u8 (k : Int) := holds_val (hx (.tmp 70)) (by kernel_rfl)
      simp [execOp, e70, go_sem, yk])
  · exact Obl.pure ⟨by kernel_rfl, by kernel_rfl, by kernel_rfl⟩ (.pointer (some ⟨P, 0, none⟩)) (by kernel_rfl) (fun ev w hb hx => by
      have e5 : ev (.tmp 5) = .pointer (some ⟨P, 0, none⟩) := holds_val (hx (.tmp 5)) (by kernel_rfl)
      simp [execOp, e5, go_sem])
  · exact Obl.pure ⟨by kernel_rfl, by kernel_rfl, by kernel_rfl⟩ (.int .i64 (k : Int)) (by kernel_rfl) (fun ev w hb hx => by
      have e72 : ev (.tmp 72) = .pointer (some ⟨P, 0, none⟩) := holds_val (hx (.tmp 72)) (by kernel_rfl)
      obtain ⟨m0, m1, m2, m3, m4, m5, m6, m7⟩ := blk8c (hP.below ((drew_below _).trans hb) hPl); simp [execOp, e72, go_sem, m0])
  · exact Obl.bin ⟨by kernel_rfl, by kernel_rfl, by kernel_rfl⟩ .eql _ (.tmp 71) (.tmp 73) _ rfl (.int .i64 (k : Int)) (.int .i64 (k : Int)) (.bool true) (by kernel_rfl) (by kernel_rfl) (fun w => by simp [eqGuard, go_sem]) (by kernel_rfl)
  · exact Obl.pick trivial _ _ _ rfl true (by kernel_rfl) (by kernel_rfl)
  · exact Obl.move trivial _ (Or.inl rfl) (by kernel_rfl)
  · exact Obl.call ⟨by kernel_rfl, by kernel_rfl, by kernel_rfl⟩ 12 #[] _ rfl Try.f12 Try.func12 (by kernel_rfl) (by kernel_rfl) (fun ev w hb hx => by
      simp only [List.map_toArray, List.map_nil]
      exact (known8 w).mono fun _ _ hh => Val.holds (by kernel_rfl) hh)
  · exact Obl.pick trivial _ _ _ rfl true (by kernel_rfl) (by kernel_rfl)
  · exact Obl.move trivial _ (Or.inr rfl) (by kernel_rfl)
  intro a w9 hb hsz hdf hold hv
  have h4 : a.tmps.getD 4 undef = .bool true := holds_val (hv 50 4 (by kernel_rfl)) (by kernel_rfl)
  obtain ⟨tm, df⟩ := a
  have hdf' : df = [] := hdf
  subst hdf'
  go_wp2
  go_ret
  exact ⟨congrArg _ h4, b4.drew.trans (hb.mono b4.size)⟩
end Go.Proofs.Ytgjncaobcgjefaa.RP
