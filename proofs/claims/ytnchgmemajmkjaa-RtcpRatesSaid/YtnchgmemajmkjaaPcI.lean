/- Contract: rtcp.bytesOf. -/
import Derived.Test.YtnchgmemajmkjaaPcH
import Derived.Test.YtnchgmemajmkjaaMh
namespace Go.Proofs.Ytnchgmemajmkjaa
open Go.RowKit
set_option linter.unusedVariables false
set_option linter.unusedSimpArgs false
set_option maxRecDepth 20000

theorem rtcp_words (x : Rv) (w : World) (hx : IsR w w.heap.size x) (he : x.r.err = 0) (hk : x.r.kind ≠ 6) : Calls Try.prog 61 #[x.val] w (WordsOut w x.r.ws) := by
  obtain ⟨h1, h2, h3⟩ := Rep.err_zero he
  have hc : x.r.kind = 1 ∨ x.r.kind = 2 ∨ x.r.kind = 3 ∨ x.r.kind = 4 ∨ x.r.kind = 5 := by omega
  rcases hc with h | h | h | h | h
  · exact words_1 x w hx h (Rep.fits_12 (.inl h) h2)
  · exact words_2 x w hx h (Rep.fits_12 (.inr h) h2)
  · exact words_3 x w hx h
  · obtain ⟨a, b, c, d⟩ := Rep.fits_4 h h2
    exact words_4 x w hx h a c d
  · exact words_5 x w hx h (Rep.fits_5 h h2).1
theorem oct_head (a b : UInt8) (x y : Int) (hx : x = (a.toNat : Int)) (hy : y = (b.toNat : Int)) (V : World) (g : Nat) (hg : g = V.heap.size) (k : Int) (n : Nat) (hk : k = (n : Int)) (hn : n < 18446744073709551616) :
    Calls Try.prog 63 #[.slice (some ⟨g, 0, none⟩) 2 2, .int .u64 k, .int .i64 2] (V.alloc (.cells #[.int .u8 x, .int .u8 y] 5)) (New8 (V.alloc (.cells #[.int .u8 x, .int .u8 y] 5)) ([a, b] ++ be n 2)) := by
  subst hx hy hk
  exact oct_put2 _ 2 2 [a, b] _ (lit_r8_at [a, b] _ 2 g (0, 0) V hg rfl rfl) (by omega) n hn
theorem concat2_at (g : Nat) (A1 A2 : Option Addr) (n1 c1 n2 c2 : Nat) (l1 l2 : List UInt8) (V : World) (hg : g = V.heap.size) (h1 : R8 V V.heap.size A1 n1 c1 l1) (h2 : R8 V V.heap.size A2 n2 c2 l2) (hn : n1 + n2 ≤ 1000000) :
    Calls Try.prog 41 #[.slice (some ⟨g, 0, none⟩) 2 2] (V.alloc (.cells #[.slice A1 n1 c1, .slice A2 n2 c2] 31)) (Out8 (V.alloc (.cells #[.slice A1 n1 c1, .slice A2 n2 c2] 31)) (l1 ++ l2)) := by
  subst hg
  have hb : Below V.heap.size V (V.alloc (.cells #[.slice A1 n1 c1, .slice A2 n2 c2] 31)) := (Below.refl _ V).alloc (Nat.le_refl _) _
  have hB : Blk (V.alloc (.cells #[.slice A1 n1 c1, .slice A2 n2 c2] 31)) V.heap.size 31 #[.slice A1 n1 c1, .slice A2 n2 c2] := Blk.new _ _ _
  exact concat2 V.heap.size A1 A2 n1 c1 n2 c2 l1 l2 _ hB.lt ((hB.cell 0).trans rfl) ((hB.cell 1).trans rfl) (h1.on hb) (h2.on hb) hn
set_option maxHeartbeats 2000000 in
theorem bytesOf_6 (x : Rv) (w : World) (hx : IsR w w.heap.size x) (he : x.r.err = 0) (hk6 : x.r.kind = 6) : Calls Try.prog 42 #[x.val] w (Out8 w x.r.one) := by
  have hkk := (Rep.err_zero he).1
  have hma := fun W => mark_any x W hkk
  have htc := Rep.tc_in he
  have htl := Rep.tail_le he
  have hone : x.r.one = [UInt8.ofNat (128 + x.r.tc.2.toNat), UInt8.ofNat x.r.tc.1.toNat] ++ (be (x.r.tail.length / 4) 2 ++ x.r.tail) := rfl
  rw [hone]
  clear hone
  have htt : x.r.tail = x.r.body := by unfold Rep.tail; rw [hk6]; rfl
  have hre := (htt ▸ hx.body : R8 w w.heap.size x.Ab x.r.body.length x.cb x.r.tail)
  have hbl : x.r.body.length = x.r.tail.length := by rw [htt]
  clear htt
  generalize x.r.tail = T at *
  generalize x.r.tc.1 = ty at *
  generalize x.r.tc.2 = cn at *
  obtain ⟨⟨kind, src, about, tups, abouts, nums, rate, ty', count, body⟩, At, ct, Aa, ca, An, cn', Ab, cb⟩ := x
  simp only [Rv.val, Rv.cells] at hma ⊢
  try simp only at hk6
  have hb : Below w.heap.size w (w.alloc (.cells #[.int .i64 kind, .int .u32 (src : Int), .int .u32 (about : Int), .slice At tups.length ct, .slice Aa abouts.length ca, .slice An nums.length cn', .int .u64 (rate : Int), .int .i64 ty', .int .i64 count, .slice Ab body.length cb] 33)) := (Below.refl _ w).alloc (Nat.le_refl _) _
  have hZ : Blk (w.alloc (.cells #[.int .i64 kind, .int .u32 (src : Int), .int .u32 (about : Int), .slice At tups.length ct, .slice Aa abouts.length ca, .slice An nums.length cn', .int .u64 (rate : Int), .int .i64 ty', .int .i64 count, .slice Ab body.length cb] 33)) w.heap.size 33 #[.int .i64 kind, .int .u32 (src : Int), .int .u32 (about : Int), .slice At tups.length ct, .slice Aa abouts.length ca, .slice An nums.length cn', .int .u64 (rate : Int), .int .i64 ty', .int .i64 count, .slice Ab body.length cb] := Blk.new _ _ _
  have hx := hx.on hb
  obtain ⟨ty, rfl⟩ : ∃ n : Nat, ty = (n : Int) := ⟨ty.toNat, by omega⟩
  obtain ⟨cn, rfl⟩ : ∃ n : Nat, cn = (n : Int) := ⟨cn.toNat, by omega⟩
  simp only [Int.toNat_natCast] at *
  have hor := Lib.hid (or64_128 cn (by omega) (by omega))
  generalize hG : [UInt8.ofNat (128 + cn), UInt8.ofNat ty] ++ (be (T.length / 4) 2 ++ T) = G
  have HG := Lib.hid hG
  clear hG
  have r1 := hre.on hb
  try simp only at r1
  try simp only at hbl
  subst hk6
  generalize hn1 : body.length = n1 at *
  have HN := Lib.hid hbl.symm
  have hn1 : n1 ≤ 262140 := by omega
  have A1 := Ab
  clear hbl A1 hre he hx hkk
  go_enter Try.func42, Try.ntmps42
  go_upto_region 1 with (fail)
  generalize (w.alloc (.cells #[.int .i64 6, .int .u32 (src : Int), .int .u32 (about : Int), .slice At tups.length ct, .slice Aa abouts.length ca, .slice An nums.length cn', .int .u64 (rate : Int), .int .i64 ty', .int .i64 count, .slice Ab n1 cb] 33)) = V1 at hb hZ r1 ⊢
  obtain ⟨y0, y1, y2, y3, y4, y5, y6, y7, y8, y9⟩ := blk10 hZ
  have b1 := hb
  clear hb
  go_wp2_with fail
  ((with_reducible refine (hma _).mono ?_); rintro e w2 ⟨rfl, b2⟩)
  have r1 := r1.on b2
  have b2 := b1.trans (b2.mono b1.size)
  clear hma b1 hZ y0 y1 y2 y3 y4 y5 y6 y7 y8 y9
  go_wp2_with fail
  have hx8 : bits .or .i64 128 (cn : Int) % 256 = ((UInt8.ofNat (128 + cn)).toNat : Int) := by
    rw [hor.out, UInt8.toNat_ofNat']
    omega
  have hy8 : (ty : Int) = ((UInt8.ofNat ty).toNat : Int) := by
    rw [UInt8.toNat_ofNat']
    omega
  ((with_reducible refine (oct_head (UInt8.ofNat (128 + cn)) (UInt8.ofNat ty) _ _ hx8 hy8 w2 _ rfl _ (n1 / 4) (by omega) (by omega)).mono ?_); rintro e w3 h3)
  obtain ⟨A3, n3, c3, rfl, r3, b3⟩ := h3.out
  have b3 := ((Below.refl w2.heap.size w2).alloc (Nat.le_refl _) (.cells #[.int .u8 (bits .or .i64 128 (cn : Int) % 256), .int .u8 (ty : Int)] 5)).trans (b3.mono (by simp))
  have r1 := r1.on b3
  have b3 := b2.trans (b3.mono b2.size)
  have hn3 : n3 = 4 := by rw [← r3.1]; simp [be_len]
  subst hn3
  have hcc := concat2_at w3.heap.size A3 Ab 4 c3 n1 cb _ _ w3 rfl r3 r1 (by omega)
  have e : ([UInt8.ofNat (128 + cn), UInt8.ofNat ty] ++ be (n1 / 4) 2) ++ T = G := by rw [← HG.out, HN.out, List.append_assoc]
  rw [e] at hcc
  have hs3 := b3.size
  clear e hx8 hy8 r1 r3 hor h3 b2
  go_wp2_with fail
  ((with_reducible refine hcc.mono ?_); rintro e w4 ⟨A4, n4, c4, rfl, r4, b4⟩)
  have b5 := b3.trans ((((Below.refl w3.heap.size w3).alloc (Nat.le_refl _) (.cells #[.slice A3 4 c3, .slice Ab n1 cb] 31)).trans (b4.mono (by simp))).mono hs3)
  clear hcc b4
  go_wp2_with fail
  go_ret
  exact ⟨_, _, _, rfl, r4, b5⟩
set_option maxHeartbeats 2000000 in
theorem bytesOf_w (x : Rv) (w : World) (hx : IsR w w.heap.size x) (he : x.r.err = 0) (hk6 : x.r.kind ≠ 6) : Calls Try.prog 42 #[x.val] w (Out8 w x.r.one) := by
  have hkk := (Rep.err_zero he).1
  have hma := fun W => mark_any x W hkk
  have htc := Rep.tc_in he
  have htl := Rep.tail_le he
  have hone : x.r.one = [UInt8.ofNat (128 + x.r.tc.2.toNat), UInt8.ofNat x.r.tc.1.toNat] ++ (be (x.r.tail.length / 4) 2 ++ x.r.tail) := rfl
  rw [hone]
  clear hone
  have hwo := fun W h => rtcp_words x W h he hk6
  have hts := Rep.tail_ws (r := x.r) (by omega)
  have hws := wB_len x.r.ws
  rw [← hts] at hws
  have hpw := fun A n c W h hn => putWords_any A n c x.r.ws W h hn
  rw [← hts] at hpw
  clear hts
  generalize x.r.tail = T at *
  generalize x.r.ws = ws at *
  generalize x.r.tc.1 = ty at *
  generalize x.r.tc.2 = cn at *
  obtain ⟨⟨kind, src, about, tups, abouts, nums, rate, ty', count, body⟩, At, ct, Aa, ca, An, cn', Ab, cb⟩ := x
  simp only [Rv.val, Rv.cells] at hma hwo ⊢
  try simp only at hk6
  have hb : Below w.heap.size w (w.alloc (.cells #[.int .i64 kind, .int .u32 (src : Int), .int .u32 (about : Int), .slice At tups.length ct, .slice Aa abouts.length ca, .slice An nums.length cn', .int .u64 (rate : Int), .int .i64 ty', .int .i64 count, .slice Ab body.length cb] 33)) := (Below.refl _ w).alloc (Nat.le_refl _) _
  have hZ : Blk (w.alloc (.cells #[.int .i64 kind, .int .u32 (src : Int), .int .u32 (about : Int), .slice At tups.length ct, .slice Aa abouts.length ca, .slice An nums.length cn', .int .u64 (rate : Int), .int .i64 ty', .int .i64 count, .slice Ab body.length cb] 33)) w.heap.size 33 #[.int .i64 kind, .int .u32 (src : Int), .int .u32 (about : Int), .slice At tups.length ct, .slice Aa abouts.length ca, .slice An nums.length cn', .int .u64 (rate : Int), .int .i64 ty', .int .i64 count, .slice Ab body.length cb] := Blk.new _ _ _
  have hx := hx.on hb
  obtain ⟨ty, rfl⟩ : ∃ n : Nat, ty = (n : Int) := ⟨ty.toNat, by omega⟩
  obtain ⟨cn, rfl⟩ : ∃ n : Nat, cn = (n : Int) := ⟨cn.toNat, by omega⟩
  simp only [Int.toNat_natCast] at *
  have hor := Lib.hid (or64_128 cn (by omega) (by omega))
  generalize hG : [UInt8.ofNat (128 + cn), UInt8.ofNat ty] ++ (be (T.length / 4) 2 ++ T) = G
  have HG := Lib.hid hG
  clear hG
  have hk6 : (kind != 6) = true := by simpa using hk6
  clear he hkk
  go_enter Try.func42, Try.ntmps42
  go_upto_region 1 with (fail)
  have hwo := hwo _ hx
  generalize (w.alloc (.cells #[.int .i64 kind, .int .u32 (src : Int), .int .u32 (about : Int), .slice At tups.length ct, .slice Aa abouts.length ca, .slice An nums.length cn', .int .u64 (rate : Int), .int .i64 ty', .int .i64 count, .slice Ab body.length cb] 33)) = V1 at hb hZ hwo ⊢
  obtain ⟨y0, y1, y2, y3, y4, y5, y6, y7, y8, y9⟩ := blk10 hZ
  clear hx
  go_wp2_with fail
  ((with_reducible refine hwo.mono ?_); rintro e w5 ⟨A5, c5, rfl, r5, b5⟩)
  have hpw := hpw _ _ _ _ r5 (by omega)
  clear hwo
  go_wp2_with fail
  ((with_reducible refine hpw.mono ?_); rintro e w6 ⟨A1, n1, c1, rfl, r1, b6⟩)
  have b1 := b5.trans (b6.mono b5.size)
  have hZ := hZ.below b1 hZ.lt
  have b1 := hb.trans (b1.mono hb.size)
  have HN := Lib.hid r1.1
  have hn1 : n1 ≤ 262140 := by rw [← r1.1]; exact htl
  clear y0 y1 y2 y3 y4 y5 y6 y7 y8 y9 b5 b6 hb r5 hpw hws
  obtain ⟨y0, y1, y2, y3, y4, y5, y6, y7, y8, y9⟩ := blk10 hZ
  go_wp2_with fail
  ((with_reducible refine (hma _).mono ?_); rintro e w2 ⟨rfl, b2⟩)
  have r1 := r1.on b2
  have b2 := b1.trans (b2.mono b1.size)
  clear hma b1 hZ y0 y1 y2 y3 y4 y5 y6 y7 y8 y9 hk6
  go_wp2_with fail
  have hx8 : bits .or .i64 128 (cn : Int) % 256 = ((UInt8.ofNat (128 + cn)).toNat : Int) := by
    rw [hor.out, UInt8.toNat_ofNat']
    omega
  have hy8 : (ty : Int) = ((UInt8.ofNat ty).toNat : Int) := by
    rw [UInt8.toNat_ofNat']
    omega
  ((with_reducible refine (oct_head (UInt8.ofNat (128 + cn)) (UInt8.ofNat ty) _ _ hx8 hy8 w2 _ rfl _ (n1 / 4) (by omega) (by omega)).mono ?_); rintro e w3 h3)
  obtain ⟨A3, n3, c3, rfl, r3, b3⟩ := h3.out
  have b3 := ((Below.refl w2.heap.size w2).alloc (Nat.le_refl _) (.cells #[.int .u8 (bits .or .i64 128 (cn : Int) % 256), .int .u8 (ty : Int)] 5)).trans (b3.mono (by simp))
  have r1 := r1.on b3
  have b3 := b2.trans (b3.mono b2.size)
  have hn3 : n3 = 4 := by rw [← r3.1]; simp [be_len]
  subst hn3
  have hcc := concat2_at w3.heap.size A3 A1 4 c3 n1 c1 _ _ w3 rfl r3 r1 (by omega)
  have e : ([UInt8.ofNat (128 + cn), UInt8.ofNat ty] ++ be (n1 / 4) 2) ++ T = G := by rw [← HG.out, HN.out, List.append_assoc]
  rw [e] at hcc
  have hs3 := b3.size
  clear e hx8 hy8 r1 r3 hor h3 b2
  go_wp2_with fail
  ((with_reducible refine hcc.mono ?_); rintro e w4 ⟨A4, n4, c4, rfl, r4, b4⟩)
  have b5 := b3.trans ((((Below.refl w3.heap.size w3).alloc (Nat.le_refl _) (.cells #[.slice A3 4 c3, .slice A1 n1 c1] 31)).trans (b4.mono (by simp))).mono hs3)
  clear hcc b4
  go_wp2_with fail
  go_ret
  exact ⟨_, _, _, rfl, r4, b5⟩
theorem rtcp_bytesOf (x : Rv) (w : World) (hx : IsR w w.heap.size x) (he : x.r.err = 0) : Calls Try.prog 42 #[x.val] w (Out8 w x.r.one) := by
  by_cases h : x.r.kind = 6
  · exact bytesOf_6 x w hx he h
  · exact bytesOf_w x w hx he h
end Go.Proofs.Ytnchgmemajmkjaa
